/- Tell: the walk. -/
import Derived.Test.YtebmgajijjhinaaSoT
namespace Go.Proofs.Ytebmgajijjhinaa
open Go.RowKit Go.Maps
set_option linter.unusedVariables false
set_option linter.unusedSimpArgs false

attribute [local go_sem ↓] zero66
/-- one more is appended to a row of one's own; where it lies then -/
theorem wl_app1X {α : Type} (E : Lay α) {ops : Array Oper} {rest : List Oper} {o : Oper} {a : Act} {W U : World} {Q : Exit → Act → World → Prop} (T TS : TypeId) (z : Value) (bytes : Nat)
    (hund : Try.prog.underlying TS = some (.slice T)) (hinfo : (Try.prog.info? T).map (fun i => (i.zero, i.size, i.bytes)) = some (some z, E.k, bytes)) (hzc : z.cells.size = E.k) (hby : bytes ≤ 4096)
    (hgd : o.guard = none) (s x : Operand) (ho : o.op = .call { callee := .builtin .append, args := #[s, x], argTypes := #[TS, TS] }) (B n : Nat) (ks : List α) (hnk : n = ks.length) (t : α) (v : Value) (hs : a.eval s = v) (hB : B ≤ W.heap.size) (hown : W.ownsRow B T E.k v n (flG E ks))
    (N : Nat) (hN : N = W.heap.size) (hx : a.eval x = .slice (some ⟨N, 0, none⟩) 1 1) (hn : n ≤ 90000)
    (h : ∀ g c' w', w'.ownsRow B T E.k (.slice (some ⟨g, 0, none⟩) (n + 1) c') (n + 1) (flG E (ks ++ [t])) → W.grownBy w' v.ownBlock → (v.ownBlock = some g ∨ W.heap.size ≤ g) → g < w'.heap.size → wpList Try.prog ops Q rest (a.put o.dst (.slice (some ⟨g, 0, none⟩) (n + 1) c')) w') (C : Array Value) (hC : C = (E.f t).toArray) (hU : U = W.alloc (.cells C T)) : wpList Try.prog ops Q (o :: rest) a U := by
  subst hnk hU hC hN
  obtain ⟨i0, hi0, hz0, hz1, hz2⟩ := info_partsT hinfo
  have hsz : B ≤ (W.alloc (.cells (E.f t).toArray T)).heap.size := by simp; omega
  have hk := E.pos
  refine wpList_append_lies _ hgd s x TS ho B T i0 z E.k bytes hund hi0 hz0 hz1 hz2 hzc ?_ v ks.length (flG E ks) hs (ownsRow_bl hown ((Bl.refl W).alloc _)) ⟨W.heap.size, 0, none⟩ 1 1 (E.f t) hx (by rw [E.len]; omega) (fun j u hu => ?_) (E.one t) (by omega) (by unfold maxLen; omega) ?_ hsz _ rfl (fun g cap w' h1 h2 h3 h4 => ?_)
  · omega
  · rw [Addr.add_mid, Lib.cell_of_heap (heap_alloc_new W _), Nat.zero_add]
    simpa using hu
  · have : (ks.length + 1) * bytes ≤ 90001 * 4096 := Nat.mul_le_mul (by omega) hby
    omega
  · refine h _ _ w' (by rw [flG_app]; simpa [flG] using h1) ((World.grownBy_alloc W _ _).trans h2) ?_ h4
    rcases h3 with h3 | h3
    · exact Or.inl h3
    · right; simp at h3; omega
def bs0 (f : SO.Fr) : Sn := ⟨f.dst, f.kind, f.frm, f.seq, f.node, none, 0, 0⟩
theorem set_frm (tt k fr sq nd me : Int) (M : List Value) (rv : Value) : (snL tt k fr sq nd M rv).set 2 (.int .i64 me) = snL tt k me sq nd M rv := rfl
theorem snL_eq (tt k fr sq nd : Int) (M : List Value) (rv : Value) : snL tt k fr sq nd M rv = ([.int .i64 tt, .int .i64 k, .int .i64 fr, .int .i64 sq, .int .i64 nd] ++ M) ++ [nilV, nilV, nilV, rv] := by simp [snL, frL]
theorem set_tail (tt k fr sq nd : Int) (rv : Value) (j : Nat) (v : Value) : (snL tt k fr sq nd zM rv).set (234 + j) v = ([.int .i64 tt, .int .i64 k, .int .i64 fr, .int .i64 sq, .int .i64 nd] ++ zM) ++ ([nilV, nilV, nilV, rv].set j v) := by
  have hl : ([.int .i64 tt, .int .i64 k, .int .i64 fr, .int .i64 sq, .int .i64 nd] ++ zM : List Value).length = 234 := by rw [List.length_append, zM_len]; rfl
  rw [snL_eq, List.set_append_right _ _ (by omega), hl, Nat.add_sub_cancel_left]
theorem set_rum (tt k fr sq nd : Int) (rv v : Value) : (snL tt k fr sq nd zM rv).set 237 v = snL tt k fr sq nd zM v := by
  have := set_tail tt k fr sq nd rv 3 v
  rw [snL_eq tt k fr sq nd zM v]; exact this
theorem set_nil (tt k fr sq nd : Int) (rv : Value) (j : Nat) (hj : j < 3) : (snL tt k fr sq nd zM rv).set (234 + j) nilV = snL tt k fr sq nd zM rv := by
  rw [set_tail, snL_eq tt k fr sq nd zM rv]
  rcases (by omega : j = 0 ∨ j = 1 ∨ j = 2) with rfl | rfl | rfl <;> rfl
theorem get_nil (tt k fr sq nd : Int) (rv : Value) (j : Nat) (hj : j < 3) : (snL tt k fr sq nd zM rv)[234 + j]? = some nilV := by
  have hl : ([.int .i64 tt, .int .i64 k, .int .i64 fr, .int .i64 sq, .int .i64 nd] ++ zM : List Value).length = 234 := by rw [List.length_append, zM_len]; rfl
  rw [snL_eq, List.getElem?_append_right (by omega), hl, Nat.add_sub_cancel_left]
  rcases (by omega : j = 0 ∨ j = 1 ∨ j = 2) with rfl | rfl | rfl <;> rfl
theorem cloneD (W : World) : Calls Try.prog 41 #[.slice none 0 0] W fun e w' => e = .returned (.slice none 0 0) ∧ w' = W := by
  have h1 : ∀ W, (binOp .eql 41 (.slice none 0 0) (.slice none 0 0)).run Try.prog W = .ok (.bool true) W := fun W => by kernel_rfl
  go_enter Try.func41, Try.ntmps41
  go_wp2_with fail
  go_ret
  exact ⟨rfl, rfl⟩
theorem cloneG (W : World) : Calls Try.prog 42 #[.slice none 0 0] W fun e w' => e = .returned (.slice none 0 0) ∧ w' = W := by
  have h1 : ∀ W, (binOp .eql 44 (.slice none 0 0) (.slice none 0 0)).run Try.prog W = .ok (.bool true) W := fun W => by kernel_rfl
  go_enter Try.func42, Try.ntmps42
  go_wp2_with fail
  go_ret
  exact ⟨rfl, rfl⟩
theorem cloneR (W : World) : Calls Try.prog 43 #[.slice none 0 0] W fun e w' => e = .returned (.slice none 0 0) ∧ w' = W := by
  have h1 : ∀ W, (binOp .eql 45 (.slice none 0 0) (.slice none 0 0)).run Try.prog W = .ok (.bool true) W := fun W => by kernel_rfl
  go_enter Try.func43, Try.ntmps43
  go_wp2_with fail
  go_ret
  exact ⟨rfl, rfl⟩
/-- a scout's hum takes rumours out; its blocks stay the same -/
theorem S0.take {w W : World} {p : Nat} {P : Pl} {B : Nat → Prop} {N : Nat} {s : SO.Sc} (x : S0 w p P B N s W) :
    Calls Try.prog 40 #[.pointer (some ⟨P.h, 0, none⟩), .int .i64 6] W fun e w' => ∃ a c, e = .returned (.slice a (HU.told s.F (HU.cnt s.F 6)).length c) ∧ RS lyM w' a (HU.told s.F (HU.cnt s.F 6)) ∧ (∃ P', S0 w p P' B N { s with F := HU.took s.F (HU.cnt s.F 6) } w') ∧ OS B B W w' ∧ ∀ q off, a = some ⟨q, off, none⟩ → W.heap.size ≤ q ∧ q < w'.heap.size := by
  refine (Take_x x.hl 6).mono ?_
  rintro e w' ⟨v', a, c, rfl, r1, r2, r3, r5, r4⟩
  obtain ⟨y, o⟩ := x.hum r2 r3
  have hB : ∀ k, (B k ∨ v'.ownBlock = some k) → B k := fun k h => by
    rcases h with h | h
    · exact h
    · rw [r5] at h; exact x.Bv k h
  refine ⟨a, c, rfl, r1, ⟨_, ⟨y.row, y.vt, y.hl, y.ln, y.hp, y.er, x.Bp, x.Bq, x.Bb, x.Bh, fun g e => hB g (Or.inr e), x.Bn, x.Ba, x.Be, fun k hk => ⟨(x.Bo k hk).1, Nat.lt_of_lt_of_le (x.Bo k hk).2 o.size⟩, y.num, y.lcp⟩⟩, ⟨o.os, o.tape, o.output, o.size, o.block, fun k h => Or.inl h⟩, r4⟩
/-- so many frames were told -/
structure TL (w : World) (p : Nat) (B : Nat → Prop) (N : Nat) (s : SO.Sc) (W : World) (l : List SO.Fr) (k : Nat) (u : Value) (wr : World) : Prop where
  sc : ∃ P', S0 w p P' B N (SO.tellS s (l.take k)) wr
  os : OS B B W wr
  ex : ∃ ys : List Sn, ys.length = k ∧ wr.ownsRow W.heap.size tSn 238 u k (flG lyS ys) ∧ ∀ (i : Nat) (y : Sn) (f : SO.Fr), ys[i]? = some y → (SO.tellL s (l.take k))[i]? = some f → SN wr (fun g => W.heap.size ≤ g ∧ some g ≠ u.ownBlock) y f
end Go.Proofs.Ytebmgajijjhinaa
