/- A scout in memory. -/
import Derived.Test.YtebmgajijjhinaaSoMath
import Derived.Test.YtebmgajijjhinaaKn5
import Derived.Test.YtebmgajijjhinaaKnO
import Derived.Test.YtebmgajijjhinaaHuK
import Derived.Test.YtebmgajijjhinaaHaw
namespace Go.Proofs.Ytebmgajijjhinaa
open Go.RowKit Go.Maps
set_option linter.unusedVariables false
set_option linter.unusedSimpArgs false

theorem tags {C D : Array Value} {s t : TypeId} {W : World} {p q : Nat} (h1 : W.heap[p]? = some (.cells C s (0, 0))) (h2 : W.heap[q]? = some (.cells D t (0, 0))) (hne : s ≠ t) : p ≠ q := fun e => by
  subst e
  rw [h1] at h2
  have := Option.some.inj h2
  injection this with _ h3
  exact hne h3
abbrev tSc : TypeId := 69
abbrev tIn : TypeId := 3
abbrev tEr : TypeId := 98
def lyE : Lay SO.Er := ⟨5, fun e => [.int .i64 e.seq, .int .i64 e.node, .int .i64 e.asker, .int .i64 e.asked, .bool e.closed], fun _ => rfl, fun x u hu => by simp at hu; rcases hu with rfl | rfl | rfl | rfl | rfl <;> rfl, by decide⟩
/-- a scout's cells -/
def scC (q h : Nat) (s : SO.Sc) (lv hv ev : Value) : Array Value := #[.pointer (some ⟨q, 0, none⟩), .pointer (some ⟨h, 0, none⟩), .int .i64 s.now, .int .i64 (s.sn 0), .int .i64 (s.sn 1), .int .i64 (s.sn 2), .int .i64 (s.sn 3), .int .i64 (s.sn 4), .int .i64 (s.sn 5), .int .i64 (s.sn 6), .int .i64 s.me, .int .i64 s.n, lv, .int .i64 s.seq, .int .i64 s.pn, .int .i64 s.ps, hv, .bool s.pa, ev]
/-- things as a slice, in blocks of their type -/
def RT {α : Type} (E : Lay α) (T : TypeId) (W : World) (a : Option Addr) (l : List α) : Prop := ∀ (i : Nat) (x : α), l[i]? = some x → ∃ b off C, a = some ⟨b, off, none⟩ ∧ W.heap[b]? = some (.cells C T (0, 0)) ∧ W.rangeAt b (off + i * E.k) (E.f x)
theorem RT.rs {α : Type} {E : Lay α} {T : TypeId} {W : World} {a : Option Addr} {l : List α} (h : RT E T W a l) : RS E W a l := fun i x hx => by
  obtain ⟨b, off, C, h1, h2, h3⟩ := h i x hx
  exact ⟨b, off, h1, lt_heap h2, h3⟩
theorem RT.nil {α : Type} (E : Lay α) (T : TypeId) (W : World) (a : Option Addr) : RT E T W a [] := fun i x hx => by simp at hx
theorem RT.keep {α : Type} {E : Lay α} {T : TypeId} {W W' : World} {a : Option Addr} {l : List α} (h : RT E T W a l) (hk : ∀ g off C, a = some ⟨g, off, none⟩ → W.heap[g]? = some (.cells C T (0, 0)) → W'.heap[g]? = W.heap[g]?) : RT E T W' a l := fun i x hx => by
  obtain ⟨b, off, C, h1, h2, h3⟩ := h i x hx
  have e := hk b off C h1 h2
  exact ⟨b, off, C, h1, by rw [e]; exact h2, fun j v hv => by rw [World.cell?_of_block e]; exact h3 j v hv⟩
theorem RT.bl {α : Type} {E : Lay α} {T : TypeId} {W W' : World} {a : Option Addr} {l : List α} (h : RT E T W a l) (hb : Bl W W') : RT E T W' a l := h.keep fun g off C _ e => Below.block hb _ (lt_heap e)
/-- a row of one's own, as such a slice -/
theorem owns_rt {α : Type} (E : Lay α) {N : Nat} {W : World} {T : TypeId} {v : Value} {ks : List α} (h : W.ownsRow N T E.k v ks.length (flG E ks)) : ∃ a c, v = .slice a ks.length c ∧ RT E T W a ks := by
  obtain ⟨a, c, rfl, hr⟩ := owns_rs E h
  refine ⟨a, c, rfl, fun i x hx => ?_⟩
  obtain ⟨b, off, h1, h2, h3⟩ := hr i x hx
  obtain ⟨C, hC⟩ := own_tag h (g := b) (by
    obtain ⟨h0, ⟨h4, _⟩ | ⟨g, cap, cur, h4, _⟩⟩ := h
    · rw [h1] at h4; cases h4
    · rw [h1] at h4; cases h4; rw [h1]; rfl)
  exact ⟨b, off, C, h1, hC, h3⟩
/-- all blocks are as they were but for those of B, which is now B' -/
structure OS (B B' : Nat → Prop) (W W' : World) : Prop where
  os : W'.os = W.os
  tape : W'.tape = W.tape
  output : W'.output = W.output
  size : W.heap.size ≤ W'.heap.size
  block : ∀ k, k < W.heap.size → ¬ B k → W'.heap[k]? = W.heap[k]?
  own : ∀ k, B' k → B k ∨ W.heap.size ≤ k
theorem OS.refl (B : Nat → Prop) (W : World) : OS B B W W := ⟨rfl, rfl, rfl, Nat.le_refl _, fun _ _ _ => rfl, fun _ h => Or.inl h⟩
theorem OS.trans {B B1 B2 : Nat → Prop} {W W1 W2 : World} (h : OS B B1 W W1) (k : OS B1 B2 W1 W2) : OS B B2 W W2 := by
  refine ⟨k.os.trans h.os, k.tape.trans h.tape, k.output.trans h.output, Nat.le_trans h.size k.size, fun i hi hb => ?_, fun g hg => ?_⟩
  · rw [k.block i (Nat.lt_of_lt_of_le hi h.size) (fun e => ?_)]
    · exact h.block i hi hb
    · rcases h.own i e with h1 | h1
      · exact hb h1
      · omega
  · rcases k.own g hg with h1 | h1
    · exact h.own g h1
    · right; have := h.size; omega
theorem OS.of_bl {B : Nat → Prop} {W W' : World} (h : Bl W W') : OS B B W W' := ⟨h.os, h.tape, h.output, h.size, fun k hk _ => h.block k hk, fun _ h => Or.inl h⟩
theorem OS.of1 {B : Nat → Prop} {b : Nat} {W W' : World} (h : Of1 b W W') (hb : B b) : OS B B W W' := ⟨h.os, h.tape, h.output, h.size, fun k hk hn => h.block k hk (fun e => hn (e ▸ hb)), fun _ h => Or.inl h⟩
theorem OS.below {B B' : Nat → Prop} {w W W' : World} (h : OS B B' W W') (hb : Bl w W) (hB : ∀ k, B k → w.heap.size ≤ k) : Bl w W' :=
  ⟨h.os.trans hb.os, h.tape.trans hb.tape, h.output.trans hb.output, Nat.le_trans hb.size h.size, fun k hk => (h.block k (Nat.lt_of_lt_of_le hk hb.size) (fun e => by have := hB k e; omega)).trans (hb.block k hk)⟩
/-- what is known of the numbers of a scout: so many steps were taken at most -/
structure Num (s : SO.Sc) (N : Nat) : Prop where
  n1 : 0 ≤ s.now
  n2 : s.now ≤ N
  q1 : 0 ≤ s.seq
  q2 : s.seq ≤ N
  s1 : ∀ k, 0 ≤ s.sn k
  s2 : ∀ k, s.sn k ≤ N
  m1 : 1 ≤ s.me
  m2 : s.me ≤ s.n
  m3 : s.n ≤ 6
  p1 : 0 ≤ s.pn
  p2 : s.pn ≤ 6
  ok : K.Ok s.f
  el : s.er.length ≤ 16
  ll : s.line.length ≤ 6
  l1 : ∀ k ∈ s.line, 1 ≤ k ∧ k ≤ 6
  hh : s.ph.length ≤ 6
theorem Num.more {s : SO.Sc} {N M : Nat} (x : Num s N) (h : N ≤ M) : Num s M := ⟨x.n1, by have := x.n2; omega, x.q1, by have := x.q2; omega, x.s1, fun k => by have := x.s2 k; omega, x.m1, x.m2, x.m3, x.p1, x.p2, x.ok, x.el, x.ll, x.l1, x.hh⟩
/-- where a scout's parts lie -/
structure Pl where
  q : Nat
  b : Nat
  h : Nat
  v : Value
  la : Option Addr
  lc : Nat
  ha : Option Addr
  hc : Nat
  ev : Value
def Pl.cells (P : Pl) (s : SO.Sc) : Array Value := scC P.q P.h s (.slice P.la s.line.length P.lc) (.slice P.ha s.ph.length P.hc) P.ev
structure S0 (w : World) (p : Nat) (P : Pl) (B : Nat → Prop) (N : Nat) (s : SO.Sc) (W : World) : Prop where
  row : W.heap[p]? = some (.cells (P.cells s) tSc (0, 0))
  vt : VT w P.q P.b s.f N W
  hl : HL w P.h P.v 5 s.F (HU.tl s.F) W
  ln : RT lyI tIn W P.la s.line
  hp : RT lyI tIn W P.ha s.ph
  er : W.ownsRow w.heap.size tEr 5 P.ev s.er.length (flG lyE s.er)
  Bp : B p
  Bq : B P.q
  Bb : B P.b
  Bh : B P.h
  Bv : ∀ g, P.v.ownBlock = some g → B g
  Bn : ∀ g off, P.la = some ⟨g, off, none⟩ → B g
  Ba : ∀ g off, P.ha = some ⟨g, off, none⟩ → B g
  Be : ∀ g, P.ev.ownBlock = some g → B g
  Bo : ∀ k, B k → w.heap.size ≤ k ∧ k < W.heap.size
  num : Num s N
  lcp : s.line.length ≤ P.lc
/-- a scout in block p; its blocks are among B -/
def SC (w : World) (p : Nat) (B : Nat → Prop) (N : Nat) (s : SO.Sc) (W : World) : Prop := ∃ P, S0 w p P B N s W
theorem S0.bl {w W : World} {p : Nat} {P : Pl} {B : Nat → Prop} {N : Nat} {s : SO.Sc} (x : S0 w p P B N s W) : Bl w W := x.vt.bl
theorem own_keep {N k n : Nat} {W W' : World} {T : TypeId} {v : Value} {xs : List Value} (h : W.ownsRow N T k v n xs) (hk : ∀ g C, v.ownBlock = some g → W.heap[g]? = some (.cells C T (0, 0)) → W'.heap[g]? = W.heap[g]?) : W'.ownsRow N T k v n xs := by
  obtain ⟨h0, h1 | ⟨g, cap, cur, h1, h2, h3, h4⟩⟩ := h
  · exact ⟨h0, Or.inl h1⟩
  · exact ⟨h0, Or.inr ⟨g, cap, cur, h1, h2, by rw [hk g cur (by rw [h1]; rfl) h3]; exact h3, h4⟩⟩
/-- the scout's blocks are as they were -/
theorem S0.keep {w W W' : World} {p : Nat} {P : Pl} {B : Nat → Prop} {N : Nat} {s : SO.Sc} (x : S0 w p P B N s W) (hs : W.heap.size ≤ W'.heap.size) (hb : Bl w W') (hk : ∀ k, B k → W'.heap[k]? = W.heap[k]?) : S0 w p P B N s W' :=
  ⟨by rw [hk p x.Bp]; exact x.row, ⟨by rw [hk _ x.Bq]; exact x.vt.row, x.vt.mp.block (hk _ x.Bb), x.vt.q0, x.vt.b0, hb⟩,
   ⟨by rw [hk _ x.Bh]; exact x.hl.row, own_keep x.hl.own (fun g C e _ => hk g (x.Bv g e)), x.hl.b0, hb, x.hl.rep, x.hl.ok, x.hl.t1, x.hl.t2⟩,
   x.ln.keep (fun g off C e _ => hk g (x.Bn g off e)), x.hp.keep (fun g off C e _ => hk g (x.Ba g off e)), own_keep x.er (fun g C e _ => hk g (x.Be g e)),
   x.Bp, x.Bq, x.Bb, x.Bh, x.Bv, x.Bn, x.Ba, x.Be, fun k hk' => ⟨(x.Bo k hk').1, Nat.lt_of_lt_of_le (x.Bo k hk').2 hs⟩, x.num, x.lcp⟩
theorem S0.grow {w W W' : World} {p : Nat} {P : Pl} {B : Nat → Prop} {N : Nat} {s : SO.Sc} (x : S0 w p P B N s W) (hb : Bl W W') : S0 w p P B N s W' := x.keep (Below.size hb) (x.bl.step hb) (fun k hk => Below.block hb _ (x.Bo k hk).2)
theorem S0.more {w W : World} {p : Nat} {P : Pl} {B : Nat → Prop} {N M : Nat} {s : SO.Sc} (x : S0 w p P B N s W) (h : N ≤ M) : S0 w p P B M s W := ⟨x.row, x.vt.more h, x.hl, x.ln, x.hp, x.er, x.Bp, x.Bq, x.Bb, x.Bh, x.Bv, x.Bn, x.Ba, x.Be, x.Bo, x.num.more h, x.lcp⟩
/-- the view has turned -/
theorem S0.view {w W W' : World} {p : Nat} {P : Pl} {B : Nat → Prop} {N M : Nat} {s : SO.Sc} {f' : K.Vw} (x : S0 w p P B N s W) (hv : VT w P.q P.b f' M W') (ho : Of1 P.b W W') (hN : N ≤ M) (hok : K.Ok f') : S0 w p P B M { s with f := f' } W' := by
  obtain ⟨es, c, hm⟩ := x.vt.mp.isMap
  have ne : ∀ {g : Nat} {C : Array Value} {T : TypeId}, W.heap[g]? = some (.cells C T (0, 0)) → W'.heap[g]? = W.heap[g]? := fun {g C T} e => ho.block g (lt_heap e) (fun e2 => by rw [e2, hm] at e; cases e)
  have nm := x.num.more hN
  exact ⟨(ne x.row).trans x.row, hv, ⟨(ne x.hl.row).trans x.hl.row, own_keep x.hl.own (fun g C e e2 => ne e2), x.hl.b0, ho.bl x.hl.bl x.vt.b0, x.hl.rep, x.hl.ok, x.hl.t1, x.hl.t2⟩,
    x.ln.keep (fun g off C e e2 => ne e2), x.hp.keep (fun g off C e e2 => ne e2), own_keep x.er (fun g C e e2 => ne e2), x.Bp, x.Bq, x.Bb, x.Bh, x.Bv, x.Bn, x.Ba, x.Be, fun k hk' => ⟨(x.Bo k hk').1, Nat.lt_of_lt_of_le (x.Bo k hk').2 ho.size⟩,
    ⟨nm.n1, nm.n2, nm.q1, nm.q2, nm.s1, nm.s2, nm.m1, nm.m2, nm.m3, nm.p1, nm.p2, hok, nm.el, nm.ll, nm.l1, nm.hh⟩, x.lcp⟩
/-- the hum has turned -/
theorem S0.hum {w W W' : World} {p : Nat} {P : Pl} {B : Nat → Prop} {N : Nat} {s : SO.Sc} {F' : HU.St} {v' : Value} (x : S0 w p P B N s W) (hh : HL w P.h v' 5 F' (HU.tl F') W') (ho : OV P.h P.v v' W W') :
    S0 w p { P with v := v' } (fun k => B k ∨ v'.ownBlock = some k) N { s with F := F' } W' ∧ OS B (fun k => B k ∨ v'.ownBlock = some k) W W' := by
  have ne : ∀ {g : Nat} {C : Array Value} {T : TypeId}, W.heap[g]? = some (.cells C T (0, 0)) → T ≠ 117 → T ≠ 115 → W'.heap[g]? = W.heap[g]? := fun {g C T} e t1 t2 => ho.block g (lt_heap e) (tags e x.hl.row t1) (fun e2 => by
    obtain ⟨D, hD⟩ := own_tag x.hl.own e2.symm
    exact tags e hD t2 rfl)
  have nb : W'.heap[P.b]? = W.heap[P.b]? := by
    obtain ⟨es, c, hm⟩ := x.vt.mp.isMap
    refine ho.block _ (lt_heap hm) (fun e => ?_) (fun e => ?_)
    · rw [e, x.hl.row] at hm; cases hm
    · obtain ⟨D, hD⟩ := own_tag x.hl.own e.symm
      rw [hm] at hD; cases hD
  have nm := x.num
  refine ⟨⟨(ne x.row (by decide) (by decide)).trans x.row, ⟨(ne x.vt.row (by decide) (by decide)).trans x.vt.row, x.vt.mp.block nb, x.vt.q0, x.vt.b0, hh.bl⟩, hh,
    x.ln.keep (fun g off C e e2 => ne e2 (by decide) (by decide)), x.hp.keep (fun g off C e e2 => ne e2 (by decide) (by decide)), own_keep x.er (fun g C e e2 => ne e2 (by decide) (by decide)),
    Or.inl x.Bp, Or.inl x.Bq, Or.inl x.Bb, Or.inl x.Bh, fun g e => Or.inr e, fun g off e => Or.inl (x.Bn g off e), fun g off e => Or.inl (x.Ba g off e), fun g e => Or.inl (x.Be g e), fun k hk' => ?_,
    ⟨nm.n1, nm.n2, nm.q1, nm.q2, nm.s1, nm.s2, nm.m1, nm.m2, nm.m3, nm.p1, nm.p2, nm.ok, nm.el, nm.ll, nm.l1, nm.hh⟩, x.lcp⟩, ⟨ho.os, ho.tape, ho.output, ho.size, fun k hk hn => ho.block k hk (fun e => hn (e ▸ x.Bh)) (fun e => hn (x.Bv k e.symm)), fun k hk' => ?_⟩⟩
  · rcases hk' with hk' | hk'
    · exact ⟨(x.Bo k hk').1, Nat.lt_of_lt_of_le (x.Bo k hk').2 ho.size⟩
    · exact hh.ge hk'
  · rcases hk' with hk' | hk'
    · exact Or.inl hk'
    · rcases ho.own k hk' with h | h
      · exact Or.inl (x.Bv k h)
      · exact Or.inr h
/-- the scout's own block has turned, and with it where its line, helpers and errands lie -/
theorem S0.put {w W W' : World} {p : Nat} {P P' : Pl} {B B' : Nat → Prop} {N M : Nat} {s s' : SO.Sc} (x : S0 w p P B N s W) (hN : N ≤ M) (ho : Of1 p W W') (hrow : W'.heap[p]? = some (.cells (P'.cells s') tSc (0, 0))) (hq : P'.q = P.q) (hb : P'.b = P.b) (hh : P'.h = P.h) (hv : P'.v = P.v) (hf : s'.f = s.f) (hF : s'.F = s.F) (num : Num s' M)
    (ln : RT lyI tIn W P'.la s'.line) (hp : RT lyI tIn W P'.ha s'.ph) (er : W.ownsRow w.heap.size tEr 5 P'.ev s'.er.length (flG lyE s'.er)) (hB : ∀ k, B k → B' k) (Bn : ∀ g off, P'.la = some ⟨g, off, none⟩ → B' g) (Ba : ∀ g off, P'.ha = some ⟨g, off, none⟩ → B' g) (Be : ∀ g, P'.ev.ownBlock = some g → B' g) (Bo : ∀ k, B' k → B k ∨ (w.heap.size ≤ k ∧ k < W.heap.size)) (hlc : s'.line.length ≤ P'.lc) :
    S0 w p P' B' M s' W' := by
  have ne : ∀ {g : Nat} {C : Array Value} {T : TypeId}, W.heap[g]? = some (.cells C T (0, 0)) → T ≠ tSc → W'.heap[g]? = W.heap[g]? := fun {g C T} e t1 => ho.block g (lt_heap e) (tags e x.row t1)
  have nb : W'.heap[P.b]? = W.heap[P.b]? := by
    obtain ⟨es, c, hm⟩ := x.vt.mp.isMap
    refine ho.block _ (lt_heap hm) (fun e => ?_)
    rw [e, x.row] at hm; cases hm
  have hbl := ho.bl x.bl ((x.Bo p x.Bp).1)
  refine ⟨hrow, ?_, ?_, ln.keep (fun g off C e e2 => ne e2 (by decide)), hp.keep (fun g off C e e2 => ne e2 (by decide)), own_keep er (fun g C e e2 => ne e2 (by decide)), hB p x.Bp, by rw [hq]; exact hB _ x.Bq, by rw [hb]; exact hB _ x.Bb, by rw [hh]; exact hB _ x.Bh, by rw [hv]; exact fun g e => hB g (x.Bv g e), Bn, Ba, Be, fun k hk => ?_, num, hlc⟩
  · rw [hq, hb, hf]
    exact ⟨(ne x.vt.row (by decide)).trans x.vt.row, (x.vt.mp.block nb).more hN, x.vt.q0, x.vt.b0, hbl⟩
  · rw [hh, hv, hF]
    exact ⟨(ne x.hl.row (by decide)).trans x.hl.row, own_keep x.hl.own (fun g C e e2 => ne e2 (by decide)), x.hl.b0, hbl, x.hl.rep, x.hl.ok, x.hl.t1, x.hl.t2⟩
  · rcases Bo k hk with h | h
    · exact ⟨(x.Bo k h).1, Nat.lt_of_lt_of_le (x.Bo k h).2 ho.size⟩
    · exact ⟨h.1, Nat.lt_of_lt_of_le h.2 ho.size⟩
/-- one cell of the scout has turned -/
theorem S0.set {w W : World} {p : Nat} {P : Pl} {B : Nat → Prop} {N M : Nat} {s s' : SO.Sc} (x : S0 w p P B N s W) (hN : N ≤ M) (i : Nat) (u : Value) (hC : (P.cells s).setIfInBounds i u = P.cells s') (hf : s'.f = s.f) (hF : s'.F = s.F) (num : Num s' M) (h1 : s'.line = s.line) (h2 : s'.ph = s.ph) (h3 : s'.er = s.er) :
    S0 w p P B M s' (W.setCell ⟨p, i, none⟩ u) ∧ OS B B W (W.setCell ⟨p, i, none⟩ u) := by
  have ho := Of1.of_grown (grown_setCell W p i u)
  refine ⟨x.put hN ho (by rw [heap_setCell_own x.row, hC]) rfl rfl rfl rfl hf hF num (by rw [h1]; exact x.ln) (by rw [h2]; exact x.hp) (by rw [h3]; exact x.er) (fun _ h => h) x.Bn x.Ba x.Be (fun k h => Or.inl h) (by rw [h1]; exact x.lcp), OS.of1 ho x.Bp⟩
theorem S0.c {w W : World} {p : Nat} {P : Pl} {B : Nat → Prop} {N : Nat} {s : SO.Sc} (x : S0 w p P B N s W) (i : Nat) (u : Value) (h : (P.cells s)[i]? = some u) : W.cell? ⟨p, i, none⟩ = some u := by rw [Lib.cell_of_heap x.row]; exact h
theorem S0.fz {w W : World} {p : Nat} {P : Pl} {B : Nat → Prop} {N : Nat} {s : SO.Sc} (x : S0 w p P B N s W) (o : Nat) : W.frozen? ⟨p, o, none⟩ = false := by simp [World.frozen?, x.row]
theorem S0.c0 {w W : World} {p : Nat} {P : Pl} {B : Nat → Prop} {N : Nat} {s : SO.Sc} (x : S0 w p P B N s W) : W.cell? ⟨p, 0, none⟩ = some (.pointer (some ⟨P.q, 0, none⟩)) := x.c 0 (.pointer (some ⟨P.q, 0, none⟩)) rfl
theorem S0.c1 {w W : World} {p : Nat} {P : Pl} {B : Nat → Prop} {N : Nat} {s : SO.Sc} (x : S0 w p P B N s W) : W.cell? ⟨p, 1, none⟩ = some (.pointer (some ⟨P.h, 0, none⟩)) := x.c 1 (.pointer (some ⟨P.h, 0, none⟩)) rfl
theorem S0.c2 {w W : World} {p : Nat} {P : Pl} {B : Nat → Prop} {N : Nat} {s : SO.Sc} (x : S0 w p P B N s W) : W.cell? ⟨p, 2, none⟩ = some (.int .i64 s.now) := x.c 2 (.int .i64 s.now) rfl
theorem S0.c10 {w W : World} {p : Nat} {P : Pl} {B : Nat → Prop} {N : Nat} {s : SO.Sc} (x : S0 w p P B N s W) : W.cell? ⟨p, 10, none⟩ = some (.int .i64 s.me) := x.c 10 (.int .i64 s.me) rfl
theorem S0.c11 {w W : World} {p : Nat} {P : Pl} {B : Nat → Prop} {N : Nat} {s : SO.Sc} (x : S0 w p P B N s W) : W.cell? ⟨p, 11, none⟩ = some (.int .i64 s.n) := x.c 11 (.int .i64 s.n) rfl
theorem S0.c12 {w W : World} {p : Nat} {P : Pl} {B : Nat → Prop} {N : Nat} {s : SO.Sc} (x : S0 w p P B N s W) : W.cell? ⟨p, 12, none⟩ = some (.slice P.la s.line.length P.lc) := x.c 12 (.slice P.la s.line.length P.lc) rfl
theorem S0.c13 {w W : World} {p : Nat} {P : Pl} {B : Nat → Prop} {N : Nat} {s : SO.Sc} (x : S0 w p P B N s W) : W.cell? ⟨p, 13, none⟩ = some (.int .i64 s.seq) := x.c 13 (.int .i64 s.seq) rfl
theorem S0.c14 {w W : World} {p : Nat} {P : Pl} {B : Nat → Prop} {N : Nat} {s : SO.Sc} (x : S0 w p P B N s W) : W.cell? ⟨p, 14, none⟩ = some (.int .i64 s.pn) := x.c 14 (.int .i64 s.pn) rfl
theorem S0.c15 {w W : World} {p : Nat} {P : Pl} {B : Nat → Prop} {N : Nat} {s : SO.Sc} (x : S0 w p P B N s W) : W.cell? ⟨p, 15, none⟩ = some (.int .i64 s.ps) := x.c 15 (.int .i64 s.ps) rfl
theorem S0.c16 {w W : World} {p : Nat} {P : Pl} {B : Nat → Prop} {N : Nat} {s : SO.Sc} (x : S0 w p P B N s W) : W.cell? ⟨p, 16, none⟩ = some (.slice P.ha s.ph.length P.hc) := x.c 16 (.slice P.ha s.ph.length P.hc) rfl
theorem S0.c17 {w W : World} {p : Nat} {P : Pl} {B : Nat → Prop} {N : Nat} {s : SO.Sc} (x : S0 w p P B N s W) : W.cell? ⟨p, 17, none⟩ = some (.bool s.pa) := x.c 17 (.bool s.pa) rfl
theorem S0.c18 {w W : World} {p : Nat} {P : Pl} {B : Nat → Prop} {N : Nat} {s : SO.Sc} (x : S0 w p P B N s W) : W.cell? ⟨p, 18, none⟩ = some (P.ev) := x.c 18 (P.ev) rfl
theorem S0.cs {w W : World} {p : Nat} {P : Pl} {B : Nat → Prop} {N : Nat} {s : SO.Sc} (x : S0 w p P B N s W) (k : Nat) (hk : k < 7) : W.cell? ⟨p, 3 + k, none⟩ = some (.int .i64 (s.sn k)) := by
  refine x.c (3 + k) (.int .i64 (s.sn k)) ?_
  rcases (by omega : k = 0 ∨ k = 1 ∨ k = 2 ∨ k = 3 ∨ k = 4 ∨ k = 5 ∨ k = 6) with rfl | rfl | rfl | rfl | rfl | rfl | rfl <;> rfl
end Go.Proofs.Ytebmgajijjhinaa
