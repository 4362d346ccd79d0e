/- ask: a round begins. -/
import Derived.Test.YtebmgajijjhinaaSo9
namespace Go.Proofs.Ytebmgajijjhinaa
open Go.RowKit Go.Maps
set_option linter.unusedVariables false
set_option linter.unusedSimpArgs false

/-- some cells of a row are stored: the world behind it by a name of its own -/
theorem wl_put {ops : Array Oper} {rest : List Oper} {op : Oper} {a : Act} {w : World} {Q : Exit → Act → World → Prop} (hgd : op.guard = none) (ty : TypeId) (x y : Operand) (ho : op.op = .store ty x y)
    (b o : Nat) (cs : List Value) (hx : a.eval x = .pointer (some ⟨b, o, none⟩)) (hy : a.eval y = .agg cs.toArray) (C C' : Array Value) (t : TypeId) (hg : w.heap[b]? = some (.cells C t (0, 0))) (hle : o + cs.length ≤ C.size) (hi : (Try.prog.info? ty).map (·.size) = some cs.length) (h1 : ∀ v ∈ cs, v.oneCell' = true) (hC : setA C o cs = C')
    (h : ∀ U, U.heap[b]? = some (.cells C' t (0, 0)) → Of1 b w U → wpList Try.prog ops Q rest (a.put op.dst undef) U) : wpList Try.prog ops Q (op :: rest) a w := by
  have ht : w.there b o cs.toArray.size := fun j hj => by
    simp at hj
    refine ⟨?_, by simp [World.frozen?, hg]⟩
    rw [Lib.cell_of_heap hg, Array.getElem?_eq_getElem (by omega)]; rfl
  refine wpList_store_mid hgd ty x y ho b o cs.toArray hx hy ht (by simpa using hi) (all_oneCell_toArray h1) ?_
  refine h _ ?_ (Of1.of_grown (grown_setCells _ _ _ _))
  rw [heap_setCells _ hg, ← hC]
/-- what is answered: frames, beside a scout -/
def Ans (w : World) (p : Nat) (B : Nat → Prop) (W : World) (N : Nat) (s : SO.Sc) (fs : List SO.Fr) (e : Ending) (w' : World) : Prop := ∃ a c ys B', e = .returned (.slice a fs.length c) ∧ SC w p B' N s w' ∧ OS B B' W w' ∧ FRS w' (fun g => W.heap.size ≤ g ∧ ¬ B' g) a ys fs
theorem ans_none {w W w' : World} {p N : Nat} {B : Nat → Prop} {s : SO.Sc} (x : SX w p B W N s w') : Ans w p B W N s [] (.returned (.slice none 0 0)) w' := by
  obtain ⟨B', h1, h2⟩ := x
  exact ⟨none, 0, [], B', rfl, h1, h2, FRS.nil _ _⟩
theorem tell_sx {w W U : World} {p N : Nat} {B : Nat → Prop} {s : SO.Sc} (x : SX w p B W N s U) (l : List SO.Fr) (hl : l.length ≤ 1000) (U' : World) (hb : Bl U U') (a : Option Addr) (c : Nat) (hr : RS lyS U' a (l.map bs0)) (ha : ∀ g off, a = some ⟨g, off, none⟩ → U.heap.size ≤ g) :
    Calls Try.prog 23 #[.pointer (some ⟨p, 0, none⟩), .slice a l.length c] U' fun e w' => Ans w p B W N (SO.tellS s l) (SO.tellL s l) e w' := by
  obtain ⟨B', ⟨P', X⟩, O⟩ := x
  have X1 := X.grow hb
  refine (Tell_x X1 l hl a c hr (fun g off e hB => by have := ha g off e; have := (X.Bo g hB).2; omega)).mono ?_
  rintro e w' ⟨a', c', ys, rfl, ⟨P2, X2⟩, o2, fr⟩
  refine ⟨a', c', ys, B', by rw [SO.tellL_len], ⟨P2, X2⟩, (O.trans (OS.of_bl hb)).trans o2, fr.keep (Nat.le_refl _) (fun g hg _ => ⟨rfl, ?_, fun hB => ?_⟩)⟩
  · have := O.size; have := Below.size hb; omega
  · have := (X1.Bo g hB).2; omega
theorem RS.oneS (W : World) (f : SO.Fr) : RS lyS (W.alloc (.cells (snL f.dst f.kind f.frm f.seq f.node zM nilV).toArray tSn)) (some ⟨W.heap.size, 0, none⟩) ([f].map bs0) := RS.one lyS W tSn (bs0 f)
theorem sought_sx {w W U : World} {p N : Nat} {B : Nat → Prop} {s : SO.Sc} (x : SX w p B W N s U) (hN : N ≤ 100000000000) (hnow : 1 ≤ s.now) : Calls Try.prog 30 #[.pointer (some ⟨p, 0, none⟩)] U fun e w' => e = .returned (sgV (SO.sought s)) ∧ SX w p B W N s w' := by
  obtain ⟨B', ⟨P', X⟩, O⟩ := x
  refine (sought_x X hN hnow).mono ?_
  rintro e w' ⟨rfl, hb⟩
  exact ⟨rfl, ⟨B', ⟨P', X⟩, O⟩ |> fun h : SX w p B W N s U => h.grow hb⟩
theorem remind_sx {w W U : World} {p N : Nat} {B : Nat → Prop} {s : SO.Sc} (x : SX w p B W N s U) (k : Int) (hk : i64 k) : Calls Try.prog 21 #[.pointer (some ⟨p, 0, none⟩), .int .i64 k] U fun e w' => e = .returned (.tuple #[]) ∧ SX w p B W N (SO.remind s k) w' := by
  obtain ⟨B', ⟨P', X⟩, O⟩ := x
  refine (remind_x X k hk).mono ?_
  rintro e w' ⟨rfl, hb⟩
  exact ⟨rfl, SX.trans O hb⟩
theorem nextInLine_sx {w W U : World} {p N : Nat} {B : Nat → Prop} {s : SO.Sc} (x : SX w p B W N s U) (d : Int) (hd : i64 d) : Calls Try.prog 31 #[.pointer (some ⟨p, 0, none⟩), .int .i64 d] U fun e w' => e = .returned (sgV (SO.nextL s d).1) ∧ SX w p B W N (SO.nextL s d).2 w' := by
  obtain ⟨B', ⟨P', X⟩, O⟩ := x
  refine (nextInLine_x X d hd).mono ?_
  rintro e w' ⟨rfl, hb⟩
  exact ⟨rfl, SX.trans O hb⟩
theorem nextSeq_sx {w W U : World} {p N : Nat} {B : Nat → Prop} {s : SO.Sc} (x : SX w p B W N s U) (hN : N ≤ 100000000000) : Calls Try.prog 32 #[.pointer (some ⟨p, 0, none⟩)] U fun e w' => e = .returned (.int .i64 (s.seq + 1)) ∧ SX w p B W (N + 1) { s with seq := s.seq + 1 } w' := by
  obtain ⟨B', ⟨P', X⟩, O⟩ := x
  refine (nextSeq_x X hN).mono ?_
  rintro e w' ⟨rfl, h1, h2⟩
  exact ⟨rfl, SX.of h1 (O.trans h2)⟩
def prb (s : SO.Sc) (k q : Int) : SO.Sc := { s with pn := k, ps := q, ph := [], pa := false }
theorem Num.prb {s : SO.Sc} {N : Nat} (x : Num s N) (k q : Int) (h0 : 0 ≤ k) (h6 : k ≤ 6) : Num (prb s k q) N := ⟨x.n1, x.n2, x.q1, x.q2, x.s1, x.s2, x.m1, x.m2, x.m3, h0, h6, x.ok, x.el, x.ll, x.l1, Nat.zero_le _⟩
/-- the scout's row, for its probe to be stored -/
theorem SX.row {w W U : World} {p N : Nat} {B : Nat → Prop} {s : SO.Sc} (x : SX w p B W N s U) : ∃ C, U.heap[p]? = some (.cells C tSc (0, 0)) ∧ C.size = 19 ∧ ∀ (k q : Int), 0 ≤ k → k ≤ 6 → ∃ C', setA C 14 [.int .i64 k, .int .i64 q, .slice none 0 0, .bool false] = C' ∧ ∀ U', U'.heap[p]? = some (.cells C' tSc (0, 0)) → Of1 p U U' → U'.cell? ⟨p, 15, none⟩ = some (.int .i64 q) ∧ SX w p B W N (prb s k q) U' := by
  obtain ⟨B', ⟨P', X⟩, O⟩ := x
  refine ⟨_, X.row, rfl, fun k q h0 h6 => ⟨(({ P' with ha := none, hc := 0 } : Pl)).cells (prb s k q), rfl, fun U' h1 h2 => ?_⟩⟩
  have x2 := X.put (P' := { P' with ha := none, hc := 0 }) (B' := B') (s' := prb s k q) (Nat.le_refl N) h2 h1 rfl rfl rfl rfl rfl rfl (X.num.prb k q h0 h6) X.ln (RT.nil _ _ _ _) X.er (fun _ h => h) X.Bn (fun g off e => by cases e) X.Be (fun k h => Or.inl h) X.lcp
  exact ⟨x2.c15, SX.of x2 (O.trans (OS.of1 h2 X.Bp))⟩
theorem i64_6 {k : Int} (h : 1 ≤ k ∧ k ≤ 6) : i64 k := ⟨by have := h.1; omega, by have := h.2; omega⟩
theorem those_mem {s : SO.Sc} {N : Nat} (x : Num s N) {pr : K.Me → Bool} {k : Int} (h : k ∈ SO.those s pr) : 1 ≤ k ∧ k ≤ 6 := by
  unfold SO.those at h
  obtain ⟨m, hm, rfl⟩ := List.mem_map.1 h
  have := (K.all_of x.ok (List.mem_filter.1 hm).1).2
  exact ⟨this.1, this.2.1⟩
theorem sought_mem {s : SO.Sc} {N : Nat} (x : Num s N) {k : Int} (h : SO.sought s = some k) : 1 ≤ k ∧ k ≤ 6 := by
  unfold SO.sought at h
  split at h
  · cases h
  · exact those_mem x (List.mem_of_getElem? h)
theorem nextL_facts (s : SO.Sc) (d : Int) : (SO.nextL s d).2.seq = s.seq ∧ (SO.nextL s d).2.f = s.f ∧ (SO.nextL s d).2.F = s.F ∧ (SO.nextL s d).2.now = s.now ∧ (SO.nextL s d).2.sn = s.sn ∧ (SO.nextL s d).2.me = s.me ∧ (SO.nextL s d).2.n = s.n ∧ (SO.nextL s d).2.er = s.er := by
  unfold SO.nextL
  split
  · exact ⟨rfl, rfl, rfl, rfl, rfl, rfl, rfl, rfl⟩
  · split <;> exact ⟨rfl, rfl, rfl, rfl, rfl, rfl, rfl, rfl⟩
theorem nextL_mem {s : SO.Sc} {N : Nat} (x : Num s N) {d k : Int} (h : (SO.nextL s d).1 = some k) : 1 ≤ k ∧ k ≤ 6 := by
  unfold SO.nextL at h
  split at h
  · rename_i y r e
    simp only [Option.some.injEq] at h
    subst h
    have : y ∈ s.line.dropWhile (fun k => !SO.isP s k) := by rw [e]; simp
    exact x.l1 y (List.dropWhile_suffix _ |>.subset this)
  · split at h
    · rename_i y r e
      simp only [Option.some.injEq] at h
      subst h
      have : y ∈ SO.mix (SO.oth s) d := by rw [e]; simp
      exact mem_pres x (List.mem_filter.1 (mix_mem _ _ y this)).1
    · cases h
/-- a ping is made, and told -/
theorem ping_sx {w W U : World} {p N : Nat} {B : Nat → Prop} {s : SO.Sc} (x : SX w p B W N s U) (k q : Int) : Calls Try.prog 33 #[.int .i64 k, .int .i64 q] U fun e w' => e = .returned (.agg (snL k 1 0 q 0 zM nilV).toArray) ∧ SX w p B W N s w' := by
  refine (ping_x k q U).mono ?_
  rintro e w' ⟨rfl, hb⟩
  exact ⟨rfl, x.grow hb⟩
theorem ack_sx {w W U : World} {p N : Nat} {B : Nat → Prop} {s : SO.Sc} (x : SX w p B W N s U) (k q n : Int) : Calls Try.prog 24 #[.int .i64 k, .int .i64 q, .int .i64 n] U fun e w' => e = .returned (.agg (snL k 2 0 q n zM nilV).toArray) ∧ SX w p B W N s w' := by
  refine (ack_x k q n U).mono ?_
  rintro e w' ⟨rfl, hb⟩
  exact ⟨rfl, x.grow hb⟩
theorem tell1_sx {w W U : World} {p N : Nat} {B : Nat → Prop} {s : SO.Sc} (x : SX w p B W N s U) (f : SO.Fr) (L : List Value) (hL : snL f.dst f.kind f.frm f.seq f.node zM nilV = L) (V : World) (hV : V = U.alloc (.cells L.toArray tSn)) :
    Calls Try.prog 23 #[.pointer (some ⟨p, 0, none⟩), .slice (some ⟨U.heap.size, 0, none⟩) 1 1] V fun e w' => Ans w p B W N (SO.tellS s [f]) (SO.tellL s [f]) e w' := by
  subst hL hV
  exact tell_sx x [f] (by simp) _ ((Bl.refl U).alloc _) _ 1 (RS.oneS U f) (fun g off e => by cases e; exact Nat.le_refl _)
/-- behind the choice: the ping is laid and told -/
structure AskC (w : World) (p : Nat) (B : Nat → Prop) (W : World) (N : Nat) (s1 : SO.Sc) (k q : Int) (L : List Value) (r : SO.Sc) (fs : List SO.Fr) : Prop where
  sq : q = s1.seq + 1
  l : L.length = 238
  one : ∀ v ∈ L, v.oneCell' = true
  seq : ∀ U, SX w p B W N s1 U → Calls Try.prog 32 #[.pointer (some ⟨p, 0, none⟩)] U fun e w' => e = .returned (.int .i64 q) ∧ ∃ C C', w'.heap[p]? = some (.cells C tSc (0, 0)) ∧ C.size = 19 ∧ setA C 14 [.int .i64 k, .int .i64 q, .slice none 0 0, .bool false] = C' ∧ Hid (∀ U', U'.heap[p]? = some (.cells C' tSc (0, 0)) → Of1 p w' U' → U'.cell? ⟨p, 15, none⟩ = some (.int .i64 q) ∧ SX w p B W (N + 1) (SO.ask1 s1 k) U')
  ping : ∀ U, SX w p B W (N + 1) (SO.ask1 s1 k) U → Calls Try.prog 33 #[.int .i64 k, .int .i64 q] U fun e w' => e = .returned (.agg L.toArray) ∧ SX w p B W (N + 1) (SO.ask1 s1 k) w'
  tell : ∀ U V, SX w p B W (N + 1) (SO.ask1 s1 k) U → V = U.alloc (.cells L.toArray tSn) → Calls Try.prog 23 #[.pointer (some ⟨p, 0, none⟩), .slice (some ⟨U.heap.size, 0, none⟩) 1 1] V fun e w' => Ans w p B W (N + 1) r fs e w'
theorem askC {w W : World} {p N : Nat} {B : Nat → Prop} {s1 : SO.Sc} (hN : N ≤ 100000000000) (k : Int) (hk : 1 ≤ k ∧ k ≤ 6) : AskC w p B W N s1 k (s1.seq + 1) (snL k 1 0 (s1.seq + 1) 0 zM nilV) (SO.tellS (SO.ask1 s1 k) [SO.ping k (s1.seq + 1)]) (SO.tellL (SO.ask1 s1 k) [SO.ping k (s1.seq + 1)]) := by
  refine ⟨rfl, snL_len zM_len, snL_one zM_one rfl, fun U h => ?_, fun U h => ping_sx h _ _, fun U V h hV => tell1_sx h (SO.ping k (s1.seq + 1)) _ rfl V hV⟩
  refine (nextSeq_sx h hN).mono ?_
  rintro e w' ⟨rfl, h2⟩
  obtain ⟨C, c1, c2, c3⟩ := h2.row
  obtain ⟨C', c4, c5⟩ := c3 k (s1.seq + 1) (by omega) hk.2
  exact ⟨rfl, C, C', c1, c2, c4, c5⟩
theorem infoPr : (Try.prog.info? 65).map (·.size) = some 4 := by kernel_rfl
theorem one4 (k q : Int) : ∀ v ∈ ([.int .i64 k, .int .i64 q, .slice none 0 0, .bool false] : List Value), v.oneCell' = true := by
  intro v hv
  simp at hv
  rcases hv with rfl | rfl | rfl | rfl <;> rfl
set_option maxRecDepth 8000 in
set_option maxHeartbeats 4000000 in
theorem ask_x {w W : World} {p : Nat} {P : Pl} {B : Nat → Prop} {N : Nat} {s : SO.Sc} (x : S0 w p P B N s W) (hN : N ≤ 100000000000) (hnow : 1 ≤ s.now) (d : Int) (hd : i64 d) :
    Calls Try.prog 13 #[.pointer (some ⟨p, 0, none⟩), .int .i64 d] W fun e w' => Ans w p B W (N + 1) (SO.ask s d).1 (SO.ask s d).2 e w' := by
  have x0 : SX w p B W N s W := SX.of x (OS.refl B W)
  obtain ⟨C0, R0, hC0, hput⟩ := x0.row
  obtain ⟨C1, hC1, hput1⟩ := hput 0 0 (by omega) (by omega)
  have HP1 : Hid (∀ U', U'.heap[p]? = some (.cells C1 tSc (0, 0)) → Of1 p W U' → SX w p B W N (SO.ask0 s) U') := fun U' h1 h2 => (hput1 U' h1 h2).2
  have HR0 := hidI R0
  have nm : Num (SO.ask0 s) N := x.num.prb 0 0 (by omega) (by omega)
  clear R0 hput hput1 x0 x
  obtain ⟨z, hz1, hz2⟩ := infoSn3
  have o4 := one4 0 0
  have hsz : 14 + ([.int .i64 0, .int .i64 0, .slice none 0 0, .bool false] : List Value).length ≤ C0.size := by rw [hC0]; decide
  cases hs : SO.sought (SO.ask0 s) with
  | some k =>
    have hk := sought_mem nm hs
    have HA : Hid ((SO.ask s d) = (SO.tellS (SO.ask1 (SO.remind (SO.ask0 s) k) k) [SO.ping k (s.seq + 1)], SO.tellL (SO.ask1 (SO.remind (SO.ask0 s) k) k) [SO.ping k (s.seq + 1)])) := by
      show _ = _
      unfold SO.ask; rw [hs]
    have CS : Hid (∀ U, SX w p B W N (SO.ask0 s) U → Calls Try.prog 30 #[.pointer (some ⟨p, 0, none⟩)] U fun e w' => e = .returned (.tuple #[.int .i64 k, .bool true]) ∧ SX w p B W N (SO.ask0 s) w') := fun U h => by
      have := sought_sx h hN hnow
      rw [hs] at this; exact this
    have CR : Hid (∀ U, SX w p B W N (SO.ask0 s) U → Calls Try.prog 21 #[.pointer (some ⟨p, 0, none⟩), .int .i64 k] U fun e w' => e = .returned (.tuple #[]) ∧ SX w p B W N (SO.remind (SO.ask0 s) k) w') := fun U h => remind_sx h k (i64_6 hk)
    have CA := hidI (askC (w := w) (W := W) (p := p) (B := B) (s1 := SO.remind (SO.ask0 s) k) hN k hk)
    have HC1 := hidI hC1
    clear hC1 hs nm hnow hd
    obtain ⟨L, hL0⟩ : ∃ L, snL k 1 0 ((SO.remind (SO.ask0 s) k).seq + 1) 0 zM nilV = L := ⟨_, rfl⟩
    rw [hL0] at CA
    clear hL0
    have hL := CA.out.l
    have HE : Hid ((SO.ask s d).1 = SO.tellS (SO.ask1 (SO.remind (SO.ask0 s) k) k) [SO.ping k (s.seq + 1)] ∧ (SO.ask s d).2 = SO.tellL (SO.ask1 (SO.remind (SO.ask0 s) k) k) [SO.ping k (s.seq + 1)]) := by
      show _ ∧ _
      rw [HA.out]; exact ⟨rfl, rfl⟩
    have hsq : (SO.remind (SO.ask0 s) k).seq + 1 = s.seq + 1 := rfl
    rw [hsq] at CA
    rw [HE.out.1, HE.out.2]
    clear HA HE hsq
    generalize SO.tellS (SO.ask1 (SO.remind (SO.ask0 s) k) k) [SO.ping k (s.seq + 1)] = R1 at CA ⊢
    generalize SO.tellL (SO.ask1 (SO.remind (SO.ask0 s) k) k) [SO.ping k (s.seq + 1)] = RL at CA ⊢
    generalize SO.remind (SO.ask0 s) k = s1 at *
    generalize SO.ask0 s = s0 at *
    generalize s.seq + 1 = q at *
    have o5 := one4 k q
    · go_enter Try.func13, Try.ntmps13
      go_wp2_with (first
        | (refine wl_put rfl 65 _ _ rfl p 14 [.int .i64 0, .int .i64 0, .slice none 0 0, .bool false] rfl rfl C0 C1 tSc HR0.out hsz infoPr o4 HC1.out ?_; intro U1 r1 o1; have HX := hidI (HP1.out _ r1 o1); clear r1 o1 HR0 HP1 HC1 hsz)
        | (go_at_call 30; refine (CS.out _ HX.out).mono ?_; clear HX CS; rintro e w2 ⟨rfl, h2⟩; have HX := hidI h2; clear h2)
        | (go_at_call 21; refine (CR.out _ HX.out).mono ?_; clear HX CR; rintro e w3 ⟨rfl, h3⟩; have HX := hidI h3; clear h3)
        | (go_at_call 32; refine (CA.out.seq _ HX.out).mono ?_; clear HX; rintro e w4 ⟨rfl, C2, C3, r2, hC2, hC3, HP2⟩; have HR2 := hidI r2; have hsz2 : 14 + ([.int .i64 k, .int .i64 q, .slice none 0 0, .bool false] : List Value).length ≤ C2.size := (by rw [hC2]; show 18 ≤ 19; omega); have HC3 := hidI hC3; clear r2 hC2 hC3)
        | (refine wl_put rfl 65 _ _ rfl p 14 [.int .i64 k, .int .i64 q, .slice none 0 0, .bool false] rfl rfl C2 C3 tSc HR2.out hsz2 infoPr o5 HC3.out ?_; intro U5 r5 o5'; obtain ⟨k15, h5⟩ := HP2.out _ r5 o5'; have HX := hidI h5; clear r5 o5' h5 HR2 HP2 HC3 hsz2)
        | (go_at_call 33; refine (CA.out.ping _ HX.out).mono ?_; clear k15 HX; rintro e w6 ⟨rfl, h6⟩; have HX := hidI h6; clear h6)
        | (refine wl_bs1 rfl 28 tSn _ rfl L 238 408 (.agg z) undSs hz1 hL (by omega) (by omega) rfl ?_)
        | (go_at_call 23; refine (CA.out.tell _ _ HX.out rfl).mono ?_; clear HX CA; rintro e w7 h7; obtain ⟨a7, c7, ys7, B7, rfl, h8⟩ := h7; have H8 := hidI h8; clear h8))
      go_ret
      exact ⟨a7, c7, ys7, B7, rfl, H8.out⟩
  | none =>
    have CS : Hid (∀ U, SX w p B W N (SO.ask0 s) U → Calls Try.prog 30 #[.pointer (some ⟨p, 0, none⟩)] U fun e w' => e = .returned (.tuple #[.int .i64 0, .bool false]) ∧ SX w p B W N (SO.ask0 s) w') := fun U h => by
      have := sought_sx h hN hnow
      rw [hs] at this; exact this
    have CN : Hid (∀ U, SX w p B W N (SO.ask0 s) U → Calls Try.prog 31 #[.pointer (some ⟨p, 0, none⟩), .int .i64 d] U fun e w' => e = .returned (sgV (SO.nextL (SO.ask0 s) d).1) ∧ SX w p B W N (SO.nextL (SO.ask0 s) d).2 w') := fun U h => nextInLine_sx h d hd
    have HC1 := hidI hC1
    cases hn : (SO.nextL (SO.ask0 s) d).1 with
    | some k =>
      have hk := nextL_mem nm hn
      have hsq : (SO.nextL (SO.ask0 s) d).2.seq = s.seq := (nextL_facts (SO.ask0 s) d).1
      obtain ⟨s1, hs1⟩ : ∃ s1, (SO.nextL (SO.ask0 s) d).2 = s1 := ⟨_, rfl⟩
      have HN : SO.nextL (SO.ask0 s) d = (some k, s1) := Prod.ext hn hs1
      have CA := hidI (askC (w := w) (W := W) (p := p) (B := B) (s1 := s1) hN k hk)
      have HE : Hid ((SO.ask s d).1 = SO.tellS (SO.ask1 s1 k) [SO.ping k (s.seq + 1)] ∧ (SO.ask s d).2 = SO.tellL (SO.ask1 s1 k) [SO.ping k (s.seq + 1)]) := by
        show _ ∧ _
        unfold SO.ask; rw [hs]; simp only [HN]; exact ⟨trivial, trivial⟩
      rw [HN] at CN
      rw [hs1] at hsq
      have CN2 : Hid (∀ U, SX w p B W N (SO.ask0 s) U → Calls Try.prog 31 #[.pointer (some ⟨p, 0, none⟩), .int .i64 d] U fun e w' => e = .returned (.tuple #[.int .i64 k, .bool true]) ∧ SX w p B W N s1 w') := CN.out
      rw [hsq] at CA
      rw [HE.out.1, HE.out.2]
      clear hC1 hs nm hnow hd HE HN hn hs1 CN hsq
      obtain ⟨L, hL0⟩ : ∃ L, snL k 1 0 (s.seq + 1) 0 zM nilV = L := ⟨_, rfl⟩
      rw [hL0] at CA
      clear hL0
      have hL := CA.out.l
      generalize SO.tellS (SO.ask1 s1 k) [SO.ping k (s.seq + 1)] = R1 at CA ⊢
      generalize SO.tellL (SO.ask1 s1 k) [SO.ping k (s.seq + 1)] = RL at CA ⊢
      generalize SO.ask0 s = s0 at *
      generalize s.seq + 1 = q at *
      have o5 := one4 k q
      go_enter Try.func13, Try.ntmps13
      go_wp2_with (first
        | (refine wl_put rfl 65 _ _ rfl p 14 [.int .i64 0, .int .i64 0, .slice none 0 0, .bool false] rfl rfl C0 C1 tSc HR0.out hsz infoPr o4 HC1.out ?_; intro U1 r1 o1; have HX := hidI (HP1.out _ r1 o1); clear r1 o1 HR0 HP1 HC1 hsz)
        | (go_at_call 30; refine (CS.out _ HX.out).mono ?_; clear HX CS; rintro e w2 ⟨rfl, h2⟩; have HX := hidI h2; clear h2)
        | (go_at_call 31; refine (CN2.out _ HX.out).mono ?_; clear HX CN2; rintro e w3 ⟨rfl, h3⟩; have HX := hidI h3; clear h3)
        | (go_at_call 32; refine (CA.out.seq _ HX.out).mono ?_; clear HX; rintro e w4 ⟨rfl, C2, C3, r2, hC2, hC3, HP2⟩; have HR2 := hidI r2; have hsz2 : 14 + ([.int .i64 k, .int .i64 q, .slice none 0 0, .bool false] : List Value).length ≤ C2.size := (by rw [hC2]; show 18 ≤ 19; omega); have HC3 := hidI hC3; clear r2 hC2 hC3)
        | (refine wl_put rfl 65 _ _ rfl p 14 [.int .i64 k, .int .i64 q, .slice none 0 0, .bool false] rfl rfl C2 C3 tSc HR2.out hsz2 infoPr o5 HC3.out ?_; intro U5 r5 o5'; obtain ⟨k15, h5⟩ := HP2.out _ r5 o5'; have HX := hidI h5; clear r5 o5' h5 HR2 HP2 HC3 hsz2)
        | (go_at_call 33; refine (CA.out.ping _ HX.out).mono ?_; clear k15 HX; rintro e w6 ⟨rfl, h6⟩; have HX := hidI h6; clear h6)
        | (refine wl_bs1 rfl 28 tSn _ rfl L 238 408 (.agg z) undSs hz1 hL (by omega) (by omega) rfl ?_)
        | (go_at_call 23; refine (CA.out.tell _ _ HX.out rfl).mono ?_; clear HX CA; rintro e w7 h7; obtain ⟨a7, c7, ys7, B7, rfl, h8⟩ := h7; have H8 := hidI h8; clear h8))
      go_ret
      exact ⟨a7, c7, ys7, B7, rfl, H8.out⟩
    | none =>
      obtain ⟨s1, hs1⟩ : ∃ s1, (SO.nextL (SO.ask0 s) d).2 = s1 := ⟨_, rfl⟩
      have HN : SO.nextL (SO.ask0 s) d = (none, s1) := Prod.ext hn hs1
      have HE : Hid ((SO.ask s d).1 = s1 ∧ (SO.ask s d).2 = []) := by
        show _ ∧ _
        unfold SO.ask; rw [hs]; simp only [HN]; exact ⟨trivial, trivial⟩
      rw [HN] at CN
      have CN2 : Hid (∀ U, SX w p B W N (SO.ask0 s) U → Calls Try.prog 31 #[.pointer (some ⟨p, 0, none⟩), .int .i64 d] U fun e w' => e = .returned (.tuple #[.int .i64 0, .bool false]) ∧ SX w p B W N s1 w') := CN.out
      rw [HE.out.1, HE.out.2]
      clear hC1 hs nm hnow hd HE HN hn hs1 CN
      generalize SO.ask0 s = s0 at *
      go_enter Try.func13, Try.ntmps13
      go_wp2_with (first
        | (refine wl_put rfl 65 _ _ rfl p 14 [.int .i64 0, .int .i64 0, .slice none 0 0, .bool false] rfl rfl C0 C1 tSc HR0.out hsz infoPr o4 HC1.out ?_; intro U1 r1 o1; have HX := hidI (HP1.out _ r1 o1); clear r1 o1 HR0 HP1 HC1 hsz)
        | (go_at_call 30; refine (CS.out _ HX.out).mono ?_; clear HX CS; rintro e w2 ⟨rfl, h2⟩; have HX := hidI h2; clear h2)
        | (go_at_call 31; refine (CN2.out _ HX.out).mono ?_; clear HX CN2; rintro e w3 ⟨rfl, h3⟩; have HX := hidI h3; clear h3))
      go_ret
      exact ans_none (HX.out.more (Nat.le_succ N))
end Go.Proofs.Ytebmgajijjhinaa
