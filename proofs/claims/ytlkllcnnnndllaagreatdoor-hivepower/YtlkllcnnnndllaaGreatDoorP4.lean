/- A store whatever its slots have: a slot is written from outside, the power goes and is back, it is opened. -/
import Derived.Test.YtlkllcnnnndllaaGreatDoorP2
namespace Go.Proofs.YtlkllcnnnndllaaGreatDoor
open Go.RowKit Go.Maps
set_option linter.unusedVariables false
set_option linter.unusedSimpArgs false

/-- a shelf of n slots alone, above w -/
structure SX (w : World) (n m sh sc : Nat) (off : Bool) (life a : Nat) (sl : List H.Sl) (W : World) : Prop where
  s : SW W sh sc ⟨off, 0, a, life, sl⟩ W
  S : Ss n sl
  n : n ≤ 128
  lm : life ≤ m
  am : a ≤ m
  o : Below w.heap.size w W
  h1 : w.heap.size ≤ sh
  h2 : w.heap.size ≤ sc
section
variable {w W : World} {n m sh sc life a : Nat} {off : Bool} {sl : List H.Sl}
theorem SX.next (x : SX w n m sh sc off life a sl W) {off' : Bool} {m' life' a' : Nat} {sl' : List H.Sl} {W' : World} (s : SW W sh sc ⟨off', 0, a', life', sl'⟩ W') (S : Ss n sl') (hl : life' ≤ m') (ha : a' ≤ m') : SX w n m' sh sc off' life' a' sl' W' :=
  ⟨s.base, S, x.n, hl, ha, x.o.trans (s.o.below x.h1 x.h2 x.o.size), x.h1, x.h2⟩
theorem SX.step (x : SX w n m sh sc off life a sl W) {W' : World} (hb : Below W.heap.size W W') : SX w n m sh sc off life a sl W' := x.next (x.s.step hb) x.S x.lm x.am
theorem SX.alloc (x : SX w n m sh sc off life a sl W) (o : Obj) : SX w n m sh sc off life a sl (W.alloc o) := x.step ((Below.refl _ W).alloc (Nat.le_refl _) _)
theorem SX.sm (x : SX w n m sh sc off life a sl W) (hm : m ≤ 900000) : Sm ⟨off, 0, a, life, sl⟩ := x.S.sm x.n off 0 a life (by have := x.am; omega) (by have := x.lm; omega) (by omega)
theorem FI.below {w W : World} {b c : Nat} {a : Option Addr} {F : List Int} (h : FI w a F) (o : Below w.heap.size w W) (hb : w.heap.size ≤ b) (hc : w.heap.size ≤ c) : FT W b c a F := fun i x hx => by
  obtain ⟨sb, off, h1, h2, h3⟩ := h i x hx
  have := o.size
  exact ⟨sb, off, h1, by omega, by omega, by omega, by rw [o.cell (p := ⟨sb, off + i, none⟩) h2]; exact h3⟩
/-- the power goes -/
theorem SX.goes (x : SX w n m sh sc off life a sl W) (hm : m ≤ 900000) : Calls Tryz.prog 15 #[.pointer (some ⟨sh, 0, none⟩)] W fun e' w' => e' = .returned (.tuple #[]) ∧ SX w n (m + 1) sh sc true (if off then life else life + 1) a sl w' ∧ Off2 sh sc W w' := by
  have hl := x.lm
  have ha := x.am
  refine (Off_at x.s (by show life ≤ _; omega)).mono ?_
  rintro e' w' ⟨rfl, y⟩
  cases off with
  | false => exact ⟨rfl, x.next (by rw [cut_on] at y; exact y) x.S (by show life + 1 ≤ _; omega) (by omega), y.o⟩
  | true => exact ⟨rfl, x.next (by rw [cut_off] at y; exact y) x.S (by show life ≤ _; omega) (by omega), y.o⟩
/-- it is back -/
theorem SX.back (x : SX w n m sh sc true life a sl W) (hm : m ≤ 900000) (F : List Int) (fa : Option Addr) (cap : Nat) (HF : FI w fa F) (hl : F.length ≤ 9223372036854775807) (hb : ∀ x ∈ F, -9223372036854775808 ≤ x ∧ x ≤ 9223372036854775807) :
    Calls Tryz.prog 16 #[.pointer (some ⟨sh, 0, none⟩), .slice fa F.length cap] W fun e' w' => e' = .returned (.tuple #[]) ∧ SX w n m sh sc false life a (sl.mapIdx (H.back (if F.length = 0 then [0] else F) sl)) w' ∧ Off2 sh sc W w' := by
  refine (On_at x.s rfl (x.sm hm) F fa cap (HF.below x.o x.h1 x.h2) hl hb).mono ?_
  rintro e' w' ⟨rfl, y⟩
  exact ⟨rfl, x.next y (x.S.on _) x.lm x.am, y.o⟩
theorem ldN_life (s : LSt) : ∀ k, (ldN s k).h.life = s.h.life
  | 0 => rfl
  | k + 1 => by
    rw [ldN]
    unfold ldStep
    split
    · exact ldN_life s k
    · split
      · exact ldN_life s k
      · split
        · exact ldN_life s k
        · exact ldN_life s k
theorem ldN_us (s : LSt) (h : ∀ (i : Nat) (e : V.En), s.h.es[i]? = some e → e.used ≤ s.h.uses) : ∀ k, ∀ (i : Nat) (e : V.En), (ldN s k).h.es[i]? = some e → e.used ≤ (ldN s k).h.uses
  | 0 => h
  | k + 1 => by
    rw [ldN]
    unfold ldStep
    split
    · exact ldN_us s h k
    · split
      · exact ldN_us s h k
      · split
        · exact ldN_us s h k
        · exact fill_us _ (ldN_us s h k)
/-- what load leaves of the shelf: its acts and its slots -/
def ldA (s : LSt) : Nat := if s.wp then s.a + 1 else s.a
def ldSl (s : LSt) : List H.Sl := if s.wp then s.sl.map (fun s => H.settle s.text) else s.sl
theorem ldEnd_eq (f : Nat) (s : LSt) : ldEnd f s = shOf f (ldA s) (ldSl s) := by unfold ldEnd ldA ldSl; cases s.wp <;> rfl
/-- it is opened -/
theorem SX.opens (x : SX w n m sh sc false life a sl W) (hm : m ≤ 800000) (hg : GW w) :
    Calls Tryz.prog 9 #[.pointer (some ⟨sh, 0, none⟩)] W fun e' w' => ∃ k, W.heap.size ≤ k ∧ e' = .returned (.tuple #[.pointer (some ⟨k + 2, 0, none⟩), .int .i64 0]) ∧ GX w n (m + 200) (newB sh sc k) life (ldA (ldN (ld0 life n a sl) n)) (ldN (ld0 life n a sl) n).h (ldSl (ldN (ld0 life n a sl) n)) w' ∧ OffB (newB sh sc k) W w' := by
  have hz := hg.z
  have h1 := x.h1
  have h2 := x.h2
  have hl := x.lm
  have ha := x.am
  have hn := x.n
  refine (Open_x (f := life) (a := a) (n := n) x.s (hg.below x.o hz) (by omega) (by omega) x.S hn (by omega) (by omega)).mono ?_
  rintro e' w' ⟨k, hk, rfl, y⟩
  rw [ldEnd_eq] at y
  have hW := x.o.size
  have hmem : ∀ j, (newB sh sc k).mem j → w.heap.size ≤ j := fun j hj => by
    rcases hj with e | e | e | e | e | hj
    · have : j = sh := e; omega
    · have : j = sc := e; omega
    · have : j = k + 2 := e; omega
    · have : j = k := e; omega
    · have : j = k + 1 := e; omega
    · cases hj
  have hL := (ld0_ok life n a sl x.S).all n
  have hSl : Ss n (ldSl (ldN (ld0 life n a sl) n)) := by
    unfold ldSl
    split
    · exact hL.s.sync
    · exact hL.s
  have hA : ldA (ldN (ld0 life n a sl) n) ≤ a + n + 1 := by
    have := hL.a
    unfold ldA
    split <;> omega
  have hU := hL.u
  refine ⟨k, hk, rfl, ⟨HX.base y, hSl, hn, by rw [ldN_life]; rfl, by omega, by omega, by omega, ldN_us _ (fun i e he => ?_) n, y.o.below x.o hmem, hmem⟩, y.o⟩
  rw [List.eq_of_mem_replicate (List.mem_of_getElem? he)]
  exact Nat.zero_le _
end
section
variable {w W : World} {n m : Nat} {b : HB}
theorem GX.sx {life a : Nat} {h : Hv} {sl : List H.Sl} (g : GX w n m b life a h sl W) : SX w n m b.sh b.sc false life a sl W :=
  ⟨g.x.sw, g.s, g.n, g.lm, g.am, g.o, g.k _ (.inl rfl), g.k _ (.inr (.inl rfl))⟩
/-- the shelf alone, whatever it has -/
def SS (w : World) (n m sh sc : Nat) (off : Bool) (W : World) : Prop := ∃ life a sl, SX w n m sh sc off life a sl W
theorem GS.off (g : GS w n m b W) (hm : m ≤ 900000) : Calls Tryz.prog 15 #[.pointer (some ⟨b.sh, 0, none⟩)] W fun e' w' => e' = .returned (.tuple #[]) ∧ SS w n (m + 1) b.sh b.sc true w' ∧ Off2 b.sh b.sc W w' := by
  obtain ⟨life, a, h, sl, g⟩ := g
  refine (g.sx.goes hm).mono ?_
  rintro e' w' ⟨rfl, y, o⟩
  exact ⟨rfl, ⟨_, _, _, y⟩, o⟩
theorem SS.alloc {sh sc : Nat} {off : Bool} (x : SS w n m sh sc off W) (o : Obj) : SS w n m sh sc off (W.alloc o) := by obtain ⟨l, a, sl, x⟩ := x; exact ⟨l, a, sl, x.alloc o⟩
theorem SS.on {sh sc : Nat} (x : SS w n m sh sc true W) (hm : m ≤ 900000) (F : List Int) (fa : Option Addr) (cap : Nat) (HF : FI w fa F) (hl : F.length ≤ 9223372036854775807) (hb : ∀ x ∈ F, -9223372036854775808 ≤ x ∧ x ≤ 9223372036854775807) :
    Calls Tryz.prog 16 #[.pointer (some ⟨sh, 0, none⟩), .slice fa F.length cap] W fun e' w' => e' = .returned (.tuple #[]) ∧ SS w n m sh sc false w' ∧ Off2 sh sc W w' := by
  obtain ⟨l, a, sl, x⟩ := x
  refine (x.back hm F fa cap HF hl hb).mono ?_
  rintro e' w' ⟨rfl, y, o⟩
  exact ⟨rfl, ⟨_, _, _, y⟩, o⟩
theorem SS.opens {sh sc : Nat} (x : SS w n m sh sc false W) (hm : m ≤ 800000) (hg : GW w) :
    Calls Tryz.prog 9 #[.pointer (some ⟨sh, 0, none⟩)] W fun e' w' => ∃ b', b'.sh = sh ∧ b'.sc = sc ∧ e' = .returned (.tuple #[.pointer (some ⟨b'.hv, 0, none⟩), .int .i64 0]) ∧ GS w n (m + 200) b' w' ∧ ∀ q, q < W.heap.size → q ≠ sh → q ≠ sc → w'.heap[q]? = W.heap[q]? ∧ ¬ b'.mem q := by
  obtain ⟨l, a, sl, x⟩ := x
  refine (x.opens hm hg).mono ?_
  rintro e' w' ⟨k, hk, rfl, y, o⟩
  refine ⟨newB sh sc k, rfl, rfl, rfl, ⟨_, _, _, _, y⟩, fun q hq h1 h2 => ?_⟩
  have hm : ¬ (newB sh sc k).mem q := by
    rintro (e | e | e | e | e | e)
    · exact h1 e
    · exact h2 e
    · have : q = k + 2 := e; omega
    · have : q = k := e; omega
    · have : q = k + 1 := e; omega
    · cases e
  exact ⟨o.block q hq hm, hm⟩
/-- a slot is written from outside -/
theorem GS.write (g : GS w n m b W) (hm : m ≤ 900000) (x : Int) (t : List UInt8) (ht : t.length ≤ maxLen) :
    Calls Tryz.prog 48 #[.pointer (some ⟨b.sh, 0, none⟩), .int .i64 x, .string (M.bs t)] W fun e' w' => (∃ er : Int, e' = .returned (.int .i64 er)) ∧ GS w n (m + 5) b w' ∧ OffB b W w' := by
  obtain ⟨life, a, h, sl, g⟩ := g
  have ham := g.am
  have hum := g.um
  have hnl : sl.length = n := g.s.n
  by_cases hs : slotE (shOf life a sl) x = 0
  · have hx : 0 ≤ x ∧ x < (sl.length : Int) := by
      unfold slotE at hs
      by_cases hx : 0 ≤ x ∧ x < (sl.length : Int)
      · exact hx
      · exfalso
        have e : (shOf life a sl).off = false := rfl
        have hx' : ¬ (0 ≤ x ∧ x < ((shOf life a sl).sl.length : Int)) := hx
        rw [e, if_neg (by simp), if_neg hx'] at hs
        exact absurd hs (by decide)
    by_cases h6 : t.length ≤ 640
    · obtain ⟨i, rfl⟩ : ∃ i : Nat, x = (i : Int) := ⟨x.toNat, by omega⟩
      have hsi : (shOf life a sl).sl[i]? = some (sl[i]'(by omega)) := List.getElem?_eq_getElem _
      refine (Write_h g.x hsi (g.sm hm) rfl t h6).mono ?_
      rintro e' w' ⟨rfl, y⟩
      refine ⟨⟨_, rfl⟩, ⟨life, a + 1, h, wrt sl i t, g.next y (g.s.put i t h6) rfl (by omega) (by omega) (by omega) g.us⟩, y.o⟩
    · refine (Write_long g.x.sw x (M.bs t) (by show sl.length ≤ 128; rw [hnl]; exact g.n) hs (by rw [M.bs_size]; omega) (by rw [M.bs_size]; exact ht)).mono ?_
      rintro e' w' ⟨rfl, q, rfl⟩
      exact ⟨⟨_, rfl⟩, ⟨life, a, h, sl, (g.step (below_drewN (Below.refl _ _) q)).wider (by omega)⟩, OffB.of_below (below_drewN (Below.refl _ _) q)⟩
  · refine (Write_no g.x.sw x (M.bs t) (by show sl.length ≤ 128; rw [hnl]; exact g.n) hs).mono ?_
    rintro e' w' ⟨rfl, q, rfl⟩
    exact ⟨⟨_, rfl⟩, ⟨life, a, h, sl, (g.step (below_drewN (Below.refl _ _) q)).wider (by omega)⟩, OffB.of_below (below_drewN (Below.refl _ _) q)⟩
end
end Go.Proofs.YtlkllcnnnndllaaGreatDoor
