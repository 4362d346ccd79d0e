/- nextInLine. -/
import Derived.Test.YtebmgajijjhinaaSo8
namespace Go.Proofs.Ytebmgajijjhinaa
open Go.RowKit Go.Maps
set_option linter.unusedVariables false
set_option linter.unusedSimpArgs false

/-- the line lies in new memory -/
theorem S0.reline {w W W' : World} {p : Nat} {P : Pl} {B B' : Nat → Prop} {N : Nat} {s : SO.Sc} (x : S0 w p P B N s W) (hs : W.heap.size ≤ W'.heap.size) (hb : Bl w W') (hk : ∀ k, B k → k ≠ p → W'.heap[k]? = W.heap[k]?) (la : Option Addr) (lc : Nat) (L : List Int) (hrow : W'.heap[p]? = some (.cells (({ P with la := la, lc := lc } : Pl).cells { s with line := L }) tSc (0, 0))) (hr : RT lyI tIn W' la L) (hl : L.length ≤ 6) (hl1 : ∀ k ∈ L, 1 ≤ k ∧ k ≤ 6) (hB : ∀ k, B k → B' k) (Bn : ∀ g off, la = some ⟨g, off, none⟩ → B' g) (Bo : ∀ k, B' k → w.heap.size ≤ k ∧ k < W'.heap.size) (hlc : L.length ≤ lc) :
    S0 w p { P with la := la, lc := lc } B' N { s with line := L } W' := by
  have nm := x.num
  have nt : ∀ {g : Nat} {C : Array Value} {T : TypeId}, B g → W.heap[g]? = some (.cells C T (0, 0)) → T ≠ tSc → W'.heap[g]? = W.heap[g]? := fun hg e ht => hk _ hg (tags e x.row ht)
  obtain ⟨es, c, hm⟩ := x.vt.mp.isMap
  have hbp : P.b ≠ p := fun e => by rw [e, x.row] at hm; cases hm
  exact ⟨hrow, ⟨by rw [nt x.Bq x.vt.row (by decide)]; exact x.vt.row, x.vt.mp.block (hk _ x.Bb hbp), x.vt.q0, x.vt.b0, hb⟩,
    ⟨by rw [nt x.Bh x.hl.row (by decide)]; exact x.hl.row, own_keep x.hl.own (fun g C e e2 => nt (x.Bv g e) e2 (by decide)), x.hl.b0, hb, x.hl.rep, x.hl.ok, x.hl.t1, x.hl.t2⟩,
    hr, x.hp.keep (fun g off C e e2 => nt (x.Ba g off e) e2 (by decide)), own_keep x.er (fun g C e e2 => nt (x.Be g e) e2 (by decide)), hB _ x.Bp, hB _ x.Bq, hB _ x.Bb, hB _ x.Bh, fun g e => hB g (x.Bv g e), Bn, fun g off e => hB g (x.Ba g off e), fun g e => hB g (x.Be g e), Bo,
    ⟨nm.n1, nm.n2, nm.q1, nm.q2, nm.s1, nm.s2, nm.m1, nm.m2, nm.m3, nm.p1, nm.p2, nm.ok, nm.el, hl, hl1, nm.hh⟩, hlc⟩
/-- a scout, its line apart: what follows is said of its line alone -/
def LN (w : World) (p : Nat) (B : Nat → Prop) (W : World) (N : Nat) (s : SO.Sc) (a : Option Addr) (c : Nat) (L : List Int) (wr : World) : Prop := ∃ P' B', P'.la = a ∧ P'.lc = c ∧ S0 w p P' B' N { s with line := L } wr ∧ OS B B' W wr
theorem LN.sx {w W wr : World} {p : Nat} {B : Nat → Prop} {N : Nat} {s : SO.Sc} {a : Option Addr} {c : Nat} {L : List Int} (h : LN w p B W N s a c L wr) : SX w p B W N { s with line := L } wr := by
  obtain ⟨P', B', _, _, h1, h2⟩ := h
  exact SX.of h1 h2
theorem LN.c {w W wr : World} {p : Nat} {B : Nat → Prop} {N : Nat} {s : SO.Sc} {a : Option Addr} {c : Nat} {L : List Int} (h : LN w p B W N s a c L wr) : wr.cell? ⟨p, 12, none⟩ = some (.slice a L.length c) ∧ wr.frozen? ⟨p, 12, none⟩ = false := by
  obtain ⟨P', B', rfl, rfl, h1, h2⟩ := h
  exact ⟨h1.c12, h1.fz 12⟩
theorem LN.grow {w W wr w' : World} {p : Nat} {B : Nat → Prop} {N : Nat} {s : SO.Sc} {a : Option Addr} {c : Nat} {L : List Int} (h : LN w p B W N s a c L wr) (hb : Bl wr w') : LN w p B W N s a c L w' := by
  obtain ⟨P', B', e1, e2, h1, h2⟩ := h
  exact ⟨P', B', e1, e2, h1.grow hb, h2.trans (OS.of_bl hb)⟩
/-- the first one is taken out -/
theorem LN.pop {w W wr : World} {p : Nat} {B : Nat → Prop} {N : Nat} {s : SO.Sc} {a : Option Addr} {c : Nat} {y : Int} {L : List Int} (h : LN w p B W N s a c (y :: L) wr) : ∃ b off, a = some ⟨b, off, none⟩ ∧ wr.cell? ⟨b, off, none⟩ = some (.int .i64 y) ∧ L.length + 1 ≤ c ∧ ∀ a' c', (a' = some ⟨b, off + 1, none⟩ ∨ (L = [] ∧ a' = some ⟨b, off, none⟩)) → L.length ≤ c' → LN w p B W N s a' c' L (wr.setCell ⟨p, 12, none⟩ (.slice a' L.length c')) := by
  obtain ⟨P', B', rfl, rfl, h1, h2⟩ := h
  obtain ⟨b, off, e1, _, e3⟩ := h1.ln.rs.at1 (k := 0) rfl
  have hB := h1.Bn b off e1
  refine ⟨b, off, e1, by simpa using e3, h1.lcp, fun a' c' ha hc' => ?_⟩
  have hln : RT lyI tIn wr P'.la (y :: L) := h1.ln
  rw [e1] at hln
  have hl := h1.num.ll
  have hl1 := h1.num.l1
  simp only [List.length_cons] at hl
  have x2 := h1.line (B' := B') a' c' L (by
    rcases ha with rfl | ⟨rfl, rfl⟩
    · exact hln.tail
    · exact RT.nil _ _ _ _) (by omega) (fun k hk => hl1 k (List.mem_cons_of_mem _ hk)) (fun _ h => h) (fun g o e => by
      rcases ha with rfl | ⟨_, rfl⟩ <;> (cases e; exact hB)) (fun k h => Or.inl h) hc'
  exact ⟨_, B', rfl, rfl, x2, h2.trans (OS.of1 (Of1.of_grown (grown_setCell wr p 12 _)) h1.Bp)⟩
/-- it is laid anew -/
theorem LN.anew {w W wr w1 w2 : World} {p : Nat} {B : Nat → Prop} {N : Nat} {s : SO.Sc} {a : Option Addr} {c : Nat} {L L2 : List Int} (h : LN w p B W N s a c L wr) {v : Value} (hb : Bl wr w1) (ho : w2.ownsRow wr.heap.size tIn 1 v L2.length (flG lyI L2)) (hv : ∀ g, v.ownBlock = some g → wr.heap.size ≤ g ∧ g < w1.heap.size) (hg : (w1.setCell ⟨p, 12, none⟩ v).grownBy w2 v.ownBlock) (hl : L2.length ≤ 6) (hl1 : ∀ k ∈ L2, 1 ≤ k ∧ k ≤ 6) : ∃ a' c', v = .slice a' L2.length c' ∧ LN w p B W N s a' c' L2 w2 := by
  obtain ⟨P', B', e1, e2, h1, h2⟩ := h
  obtain ⟨a', c', rfl, hrt⟩ := owns_rt lyI ho
  refine ⟨a', c', rfl, { P' with la := a', lc := c' }, fun k => B' k ∨ (Value.slice a' L2.length c').ownBlock = some k, rfl, rfl, ?_, ?_⟩
  · have x1 := h1.grow hb
    have o1 := grown_setCell w1 p 12 (Value.slice a' L2.length c')
    have hs : w1.heap.size ≤ w2.heap.size := Nat.le_trans o1.size hg.size
    have hpn : some p ≠ (Value.slice a' L2.length c').ownBlock := fun e => by have := (hv p e.symm).1; have := (h1.Bo p h1.Bp).2; omega
    have hnb : ∀ k, B' k → some k ≠ (Value.slice a' L2.length c').ownBlock := fun k hk e => by have := (hv k e.symm).1; have := (h1.Bo k hk).2; omega
    have hlt : ∀ k, B' k → k < w1.heap.size := fun k hk => (x1.Bo k hk).2
    have hbl : Bl w w2 := by
      have b1 := x1.bl
      refine ⟨hg.os.trans (o1.os.trans b1.os), hg.tape.trans (o1.tape.trans b1.tape), hg.output.trans (o1.output.trans b1.output), Nat.le_trans b1.size hs, fun k hk => ?_⟩
      have hkp : k ≠ p := fun e => by have := (h1.Bo p h1.Bp).1; omega
      rw [hg.block k (Nat.lt_of_lt_of_le (Nat.lt_of_lt_of_le hk b1.size) o1.size) (fun e => by have h5 := (hv k e.symm).1; have h6 := h1.bl.size; omega), o1.block k (Nat.lt_of_lt_of_le hk b1.size) (fun e => hkp (Option.some.inj e))]
      exact b1.block k hk
    refine x1.reline hs hbl (fun k hk hkp => ?_) a' c' L2 ?_ hrt hl hl1 (fun k hk => Or.inl hk) (fun g off e => Or.inr (by rw [e]; rfl)) (fun k hk => ?_) ?_
    · rw [hg.block k (Nat.lt_of_lt_of_le (hlt k hk) o1.size) (hnb k hk), o1.block k (hlt k hk) (fun e => hkp (Option.some.inj e))]
    · rw [hg.block p (Nat.lt_of_lt_of_le (hlt p h1.Bp) o1.size) hpn, heap_setCell_own x1.row]; rfl
    · rcases hk with hk | hk
      · exact ⟨(x1.Bo k hk).1, Nat.lt_of_lt_of_le (hlt k hk) hs⟩
      · have := hv k hk
        have h6 := h1.bl.size
        exact ⟨by omega, by omega⟩
    · obtain ⟨_, ⟨h5, h6⟩ | ⟨g', cap', cur, h5, _, _, h6, _⟩⟩ := ho
      · omega
      · cases h5; exact h6
  · have o1 := grown_setCell w1 p 12 (Value.slice a' L2.length c')
    refine h2.trans ⟨hg.os.trans (o1.os.trans hb.os), hg.tape.trans (o1.tape.trans hb.tape), hg.output.trans (o1.output.trans hb.output), Nat.le_trans hb.size (Nat.le_trans o1.size hg.size), fun k hk hn => ?_, fun k hk => ?_⟩
    · have hk1 := Nat.lt_of_lt_of_le hk hb.size
      rw [hg.block k (Nat.lt_of_lt_of_le hk1 o1.size) (fun e => by have := (hv k e.symm).1; omega), o1.block k hk1 (fun e => hn ((Option.some.inj e) ▸ h1.Bp))]
      exact hb.block k hk
    · rcases hk with hk | hk
      · exact Or.inl hk
      · exact Or.inr (hv k hk).1
def nlL (s : SO.Sc) (d : Int) (L : List Int) : Option Int × SO.Sc := SO.nextL { s with line := L } d
theorem nl_cons_yes {s : SO.Sc} {d y : Int} {L : List Int} (h : SO.isP s y = true) : nlL s d (y :: L) = (some y, { s with line := L }) := by
  unfold nlL SO.nextL
  have h2 : SO.isP { s with line := y :: L } y = true := h
  simp only [List.dropWhile_cons, h2, Bool.not_true, Bool.false_eq_true, if_false]
theorem nl_cons_no {s : SO.Sc} {d y : Int} {L : List Int} (h : SO.isP s y = false) : nlL s d (y :: L) = nlL s d L := by
  unfold nlL SO.nextL
  have h2 : SO.isP { s with line := y :: L } y = false := h
  simp only [List.dropWhile_cons, h2, Bool.not_false, if_true]
  rfl
theorem nl_nil (s : SO.Sc) (d : Int) : nlL s d [] = match SO.mix (SO.oth s) d with | x :: r => (some x, { s with line := r }) | [] => (none, { s with line := [] }) := rfl
theorem oth_pres {s : SO.Sc} {k : Int} (h : k ∈ SO.oth s) : SO.isP s k = true := by
  unfold SO.oth at h
  unfold SO.isP
  rw [List.contains_iff_mem]
  exact (List.mem_filter.1 h).1
set_option maxRecDepth 8000 in
set_option maxHeartbeats 4000000 in
theorem nextInLine_x {w W : World} {p : Nat} {P : Pl} {B : Nat → Prop} {N : Nat} {s : SO.Sc} (x : S0 w p P B N s W) (d : Int) (hd : i64 d) :
    Calls Try.prog 31 #[.pointer (some ⟨p, 0, none⟩), .int .i64 d] W fun e w' => e = .returned (sgV (SO.nextL s d).1) ∧ SX w p B W N (SO.nextL s d).2 w' := by
  have H0 : Hid (LN w p B W N s P.la P.lc s.line W) := ⟨P, B, rfl, rfl, x, OS.refl B W⟩
  have HNL : Hid (nlL s d s.line = SO.nextL s d) := rfl
  have CO : Hid (∀ a c L wr, LN w p B W N s a c L wr → Calls Try.prog 51 #[.pointer (some ⟨p, 0, none⟩)] wr fun e w1 => ∃ a1 c1, e = .returned (.slice a1 (SO.oth s).length c1) ∧ w1.cell? ⟨p, 12, none⟩ = some (.slice a L.length c) ∧ w1.frozen? ⟨p, 12, none⟩ = false ∧
      Hid (Calls Try.prog 52 #[.slice a1 (SO.oth s).length c1, .int .i64 d] (w1.setCell ⟨p, 12, none⟩ (.slice a1 (SO.oth s).length c1)) fun e w2 => e = .returned (.tuple #[]) ∧ LN w p B W N s a1 c1 (SO.mix (SO.oth s) d) w2)) := fun a c L wr h => by
    obtain ⟨P', B', e1, e2, h1, h2⟩ := id h
    refine (others_x h1).mono ?_
    rintro e w1 ⟨v, rfl, g1, g2⟩
    have g1' : w1.ownsRow wr.heap.size tIn 1 v (SO.oth s).length (flG lyI (SO.oth s)) := g1
    have hge : ∀ g, v.ownBlock = some g → wr.heap.size ≤ g ∧ g < w1.heap.size := fun g e => owns_ge g1' e
    obtain ⟨a1, c1, rfl, _⟩ := owns_rs lyI g1'
    have x1 := h1.grow g2
    refine ⟨a1, c1, rfl, (h.grow g2).c.1, (h.grow g2).c.2, ?_⟩
    have o1 := grown_setCell w1 p 12 (Value.slice a1 (SO.oth s).length c1)
    have g3 : (w1.setCell ⟨p, 12, none⟩ (.slice a1 (SO.oth s).length c1)).ownsRow wr.heap.size tIn 1 (.slice a1 (SO.oth s).length c1) (SO.oth s).length (flG lyI (SO.oth s)) := own_keep g1' (fun g C e e2 => o1.block g (hge g e).2 (fun e3 => by
      have := (hge g e).1
      have h5 := (h1.Bo p h1.Bp).2
      have := Option.some.inj e3
      omega))
    refine (mix_x d hd rfl g3 (by have := oth_len s; omega)).mono ?_
    rintro e w2 ⟨rfl, k1, k2⟩
    refine ⟨rfl, ?_⟩
    have hml : (SO.mix (SO.oth s) d).length = (SO.oth s).length := mix_len _ _ _
    obtain ⟨a', c', e5, k3⟩ := h.anew (L2 := SO.mix (SO.oth s) d) g2 (by rw [hml]; exact k1) hge k2 (by rw [hml]; exact oth_len s) (fun k hk => mem_pres x.num (List.mem_filter.1 (mix_mem _ _ k hk)).1)
    rw [hml] at e5
    cases e5
    exact k3
  have CP : Hid (∀ a c L wr y, LN w p B W N s a c L wr → Calls Try.prog 53 #[.pointer (some ⟨p, 0, none⟩), .int .i64 y] wr fun e w1 => e = .returned (.bool (SO.isP s y)) ∧ LN w p B W N s a c L w1) := fun a c L wr y h => by
    obtain ⟨P', B', e1, e2, h1, h2⟩ := id h
    refine (isPresent_x h1 y).mono ?_
    rintro e w1 ⟨rfl, g2⟩
    exact ⟨rfl, h.grow g2⟩
  have HOP : Hid (∀ y r, SO.mix (SO.oth s) d = y :: r → SO.isP s y = true) := fun y r h => oth_pres (mix_mem _ _ y (by rw [h]; simp))
  have HML : Hid ((SO.mix (SO.oth s) d).length = (SO.oth s).length) := mix_len _ _ _
  have hol := oth_len s
  have hll := x.num.ll
  clear x hd
  go_enter Try.func31, Try.ntmps31
  go_wp2_with fail
  go_loopw [6] (fun _ wr => ∃ a c L, LN w p B W N s a c L wr ∧ nlL s d L = SO.nextL s d ∧ L.length ≤ 6) (fun _ wr => match wr.cell? ⟨p, 12, none⟩ with | some (.slice _ n _) => n | _ => 0)
  case atStart => exact ⟨P.la, P.lc, s.line, H0.out, HNL.out, hll⟩
  case round =>
    obtain ⟨a, c, L, hln, hnl, hL6⟩ := hrel
    clear H0 HNL
    cases L with
    | nil =>
      obtain ⟨k12, f12⟩ := hln.c
      have HLN := hidI hln
      have CO1 := hidI (CO.out _ _ _ _ hln)
      clear hln CO
      cases hmx : SO.mix (SO.oth s) d with
      | nil =>
        have HN : Hid (SO.nextL s d = (none, { s with line := [] })) := by show _ = _; rw [← hnl, nl_nil, hmx]
        have hol0 : (SO.oth s).length = 0 := by rw [← HML.out, hmx]; rfl
        rw [hmx, hol0] at CO1
        have HSX : Hid (∀ a c w2, LN w p B W N s a c [] w2 → w2.cell? ⟨p, 12, none⟩ = some (.slice a 0 c) ∧ SX w p B W N { s with line := [] } w2) := fun a c w2 h => ⟨h.c.1, h.sx⟩
        clear hnl HLN HML hmx HOP CP
        generalize ({ s with line := [] } : SO.Sc) = s2 at *
        go_wp2_with (first
          | (go_at_call 51; refine (CO1.out).mono ?_; clear CO1 k12 f12; rintro e w1 ⟨a1, c1, rfl, k12, f12, C2⟩)
          | (go_at_call 52; refine (C2.out).mono ?_; clear C2 k12 f12; rintro e w2 ⟨rfl, h2⟩; obtain ⟨k12, h3⟩ := HSX.out _ _ _ h2; have H3 := hidI h3; clear h2 h3 HSX))
        go_ret2
        exact ⟨by rw [HN.out]; rfl, by rw [HN.out]; exact H3.out⟩
      | cons y r =>
        have HN : Hid (SO.nextL s d = (some y, { s with line := r })) := by show _ = _; rw [← hnl, nl_nil, hmx]
        have hol0 : (SO.oth s).length = r.length + 1 := by rw [← HML.out, hmx]; rfl
        have hyp : SO.isP s y = true := HOP.out y r hmx
        rw [hmx, hol0] at CO1
        rw [hol0] at hol
        have HPO : Hid (∀ a c w2, LN w p B W N s a c (y :: r) w2 → w2.cell? ⟨p, 12, none⟩ = some (.slice a (r.length + 1) c) ∧ w2.frozen? ⟨p, 12, none⟩ = false ∧ ∃ b off, a = some ⟨b, off, none⟩ ∧ w2.cell? ⟨b, off, none⟩ = some (.int .i64 y) ∧ r.length + 1 ≤ c ∧ Hid (∀ a' c', (a' = some ⟨b, off + 1, none⟩ ∨ (r = [] ∧ a' = some ⟨b, off, none⟩)) → r.length ≤ c' → Calls Try.prog 53 #[.pointer (some ⟨p, 0, none⟩), .int .i64 y] (w2.setCell ⟨p, 12, none⟩ (.slice a' r.length c')) fun e w3 => e = .returned (.bool true) ∧ SX w p B W N { s with line := r } w3)) := fun a c w2 h => by
          obtain ⟨b, off, e1, e2, e3, e4⟩ := h.pop
          refine ⟨h.c.1, h.c.2, b, off, e1, e2, e3, fun a' c' ha hc' => ?_⟩
          refine (CP.out _ _ _ _ y (e4 a' c' ha hc')).mono ?_
          rintro e w3 ⟨rfl, g⟩
          exact ⟨by rw [hyp], g.sx⟩
        clear hnl HLN HML hmx HOP CP hyp
        generalize ({ s with line := r } : SO.Sc) = s2 at *
        go_wp2_with (first
          | (go_at_call 51; refine (CO1.out).mono ?_; clear CO1 k12 f12; rintro e w1 ⟨a1, c1, rfl, k12, f12, C2⟩)
          | (go_at_call 52; refine (C2.out).mono ?_; clear C2 k12 f12; rintro e w2 ⟨rfl, h2⟩; obtain ⟨k12, f12, b, off, rfl, k0, hc1, C3⟩ := HPO.out _ _ _ h2; clear h2 HPO)
          | (go_at_call 53; refine (C3.out _ _ (Or.inl rfl) (by omega)).mono ?_; clear C3; rintro e w3 ⟨rfl, h3⟩; have H3 := hidI h3; clear h3)
          | (go_at_call 53; refine (C3.out _ _ (Or.inr ⟨List.length_eq_zero_iff.1 (by omega), rfl⟩) (by omega)).mono ?_; clear C3; rintro e w3 ⟨rfl, h3⟩; have H3 := hidI h3; clear h3))
        all_goals go_ret2
        all_goals exact ⟨by rw [HN.out]; rfl, by rw [HN.out]; exact H3.out⟩
    | cons y r =>
      obtain ⟨b, off, rfl, k0, hcc, HPOP⟩ := hln.pop
      obtain ⟨k12, f12⟩ := hln.c
      simp only [List.length_cons] at k12 hL6
      have HC3 : Hid (∀ a' c', (a' = some ⟨b, off + 1, none⟩ ∨ (r = [] ∧ a' = some ⟨b, off, none⟩)) → r.length ≤ c' → Calls Try.prog 53 #[.pointer (some ⟨p, 0, none⟩), .int .i64 y] (wr.setCell ⟨p, 12, none⟩ (.slice a' r.length c')) fun e w3 => e = .returned (.bool (SO.isP s y)) ∧ LN w p B W N s a' c' r w3) := fun a' c' ha hc' => CP.out _ _ _ _ y (HPOP a' c' ha hc')
      clear HPOP hln CO CP HOP HML
      cases hp : SO.isP s y with
      | true =>
        have HN : Hid (SO.nextL s d = (some y, { s with line := r })) := by show _ = _; rw [← hnl, nl_cons_yes hp]
        rw [hp] at HC3
        have HSX : Hid (∀ a c w2, LN w p B W N s a c r w2 → SX w p B W N { s with line := r } w2) := fun a c w2 h => h.sx
        clear hnl hp
        generalize ({ s with line := r } : SO.Sc) = s2 at *
        go_wp2_with (first
          | (go_at_call 53; refine (HC3.out _ _ (Or.inl rfl) (by omega)).mono ?_; clear HC3; rintro e w3 ⟨rfl, h3⟩; have H3 := hidI (HSX.out _ _ _ h3); clear h3 HSX)
          | (go_at_call 53; refine (HC3.out _ _ (Or.inr ⟨List.length_eq_zero_iff.1 (by omega), rfl⟩) (by omega)).mono ?_; clear HC3; rintro e w3 ⟨rfl, h3⟩; have H3 := hidI (HSX.out _ _ _ h3); clear h3 HSX))
        all_goals go_ret2
        all_goals exact ⟨by rw [HN.out]; rfl, by rw [HN.out]; exact H3.out⟩
      | false =>
        have HN : Hid (nlL s d r = SO.nextL s d) := by show _ = _; rw [← hnl, nl_cons_no hp]
        rw [hp] at HC3
        clear hnl hp
        go_wp2_with (first
          | (go_at_call 53; refine (HC3.out _ _ (Or.inl rfl) (by omega)).mono ?_; clear HC3; rintro e w3 ⟨rfl, h3⟩; have k3 := h3.c.1; have H3 := hidI h3; clear h3)
          | (go_at_call 53; refine (HC3.out _ _ (Or.inr ⟨List.length_eq_zero_iff.1 (by omega), rfl⟩) (by omega)).mono ?_; clear HC3; rintro e w3 ⟨rfl, h3⟩; have k3 := h3.c.1; have H3 := hidI h3; clear h3))
        all_goals go_roundw
        all_goals first
          | exact ⟨_, _, r, H3.out, HN.out, by omega⟩
          | (simp only [k3, k12]; omega)
end Go.Proofs.Ytebmgajijjhinaa
