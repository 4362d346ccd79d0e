/- Tick. -/
import Derived.Test.YtebmgajijjhinaaSo14
namespace Go.Proofs.Ytebmgajijjhinaa
open Go.RowKit Go.Maps
set_option linter.unusedVariables false
set_option linter.unusedSimpArgs false

theorem Ans.more {w W w' : World} {p N M : Nat} {B : Nat → Prop} {s : SO.Sc} {fs : List SO.Fr} {e : Ending} (h : Ans w p B W N s fs e w') (hM : N ≤ M) : Ans w p B W M s fs e w' := by
  obtain ⟨a, c, ys, B', h1, ⟨P', h2⟩, h3, h4⟩ := h
  exact ⟨a, c, ys, B', h1, ⟨P', h2.more hM⟩, h3, h4⟩
theorem Ans.from {w W U w' : World} {p N : Nat} {B B1 : Nat → Prop} {s : SO.Sc} {fs : List SO.Fr} {e : Ending} (o : OS B B1 W U) (h : Ans w p B1 U N s fs e w') : Ans w p B W N s fs e w' := by
  obtain ⟨a, c, ys, B', h1, h2, h3, h4⟩ := h
  exact ⟨a, c, ys, B', h1, h2, o.trans h3, h4.keep (Nat.le_refl _) (fun g hg _ => ⟨rfl, Nat.le_trans o.size hg.1, hg.2⟩)⟩
/-- in the middle of a tick's end: so many were held for gone -/
structure TkL (w : World) (p : Nat) (B : Nat → Prop) (W : World) (N : Nat) (s : SO.Sc) (a : Option Addr) (ys : List Sn) (fs : List SO.Fr) (a2 : Option Addr) (l : List Int) (k : Nat) (wr : World) : Prop where
  ex : ∃ B2 P2, S0 w p P2 B2 (N + k) (SO.gone s (l.take k)) wr ∧ OS B B2 W wr ∧ FRS wr (fun g => W.heap.size ≤ g ∧ ¬ B2 g) a ys fs ∧ ∀ g off, a2 = some ⟨g, off, none⟩ → ¬ B2 g ∧ g < wr.heap.size
  r : RS lyI wr a2 l
theorem gone_take {s : SO.Sc} {l : List Int} {k : Nat} {y : Int} (h : l[k]? = some y) : SO.gone s (l.take (k + 1)) = SO.turn (SO.gone s (l.take k)) y 2 := by
  unfold SO.gone
  rw [List.take_add_one, h, Option.toList_some, List.foldl_append]; rfl
theorem TkL.start {w W w1 w2 : World} {p N : Nat} {B B1 : Nat → Prop} {P1 : Pl} {s : SO.Sc} {a : Option Addr} {ys : List Sn} {fs : List SO.Fr} {a2 : Option Addr} {l : List Int} (x : S0 w p P1 B1 N s w1) (o : OS B B1 W w1) (f : FRS w1 (fun g => W.heap.size ≤ g ∧ ¬ B1 g) a ys fs) (hb : Bl w1 w2) (hr : RS lyI w2 a2 l) (hge : ∀ g off, a2 = some ⟨g, off, none⟩ → w1.heap.size ≤ g ∧ g < w2.heap.size) : TkL w p B W N s a ys fs a2 l 0 w2 :=
  ⟨⟨B1, P1, x.grow hb, o.trans (OS.of_bl hb), f.keep (Below.size hb) (fun g hg hl => ⟨Below.block hb g hl, hg⟩), fun g off e => ⟨fun hB => by have := (x.Bo g hB).2; have := (hge g off e).1; omega, (hge g off e).2⟩⟩, hr⟩
theorem TkL.turn {w W wr : World} {p N : Nat} {B : Nat → Prop} {s : SO.Sc} {a : Option Addr} {ys : List Sn} {fs : List SO.Fr} {a2 : Option Addr} {l : List Int} {k : Nat} {y : Int} (h : TkL w p B W N s a ys fs a2 l k wr) (hy : l[k]? = some y) (hi : i64 y) (hN : N + k ≤ 100000000000) :
    Calls Try.prog 18 #[.pointer (some ⟨p, 0, none⟩), .int .i64 y, .int .i64 2] wr fun e w' => e = .returned (.tuple #[]) ∧ TkL w p B W N s a ys fs a2 l (k + 1) w' := by
  obtain ⟨⟨B2, P2, x, o, f, hd⟩, hr⟩ := h
  refine (turn_x x hN y 2 hi).mono ?_
  rintro e w' ⟨rfl, B3, ⟨P3, x3⟩, o3⟩
  have hnb : ∀ g, ¬ B2 g → g < wr.heap.size → ¬ B3 g := fun g hn hl hB => by
    rcases o3.own g hB with h | h
    · exact hn h
    · omega
  refine ⟨rfl, ⟨B3, P3, by rw [gone_take hy]; exact x3, o.trans o3, f.keep o3.size (fun g hg hl => ⟨o3.block g hl hg.2, hg.1, hnb g hg.2 hl⟩), fun g off e => ⟨hnb g (hd g off e).1 (hd g off e).2, Nat.lt_of_lt_of_le (hd g off e).2 o3.size⟩⟩, fun i m hm => ?_⟩
  obtain ⟨b, off, e1, e2, e3⟩ := hr i m hm
  have hb := o3.block b e2 (hd b off e1).1
  exact ⟨b, off, e1, Nat.lt_of_lt_of_le e2 o3.size, fun j v hv => by rw [World.cell?_of_block hb]; exact e3 j v hv⟩
theorem TkL.end {w W wr : World} {p N : Nat} {B : Nat → Prop} {s : SO.Sc} {a : Option Addr} {ys : List Sn} {fs : List SO.Fr} {a2 : Option Addr} {l : List Int} {c : Nat} (h : TkL w p B W N s a ys fs a2 l l.length wr) (hl : l.length ≤ 6) : Ans w p B W (N + 6) (SO.gone s l) fs (.returned (.slice a fs.length c)) wr := by
  obtain ⟨⟨B2, P2, x, o, f, hd⟩, hr⟩ := h
  rw [List.take_length] at x
  exact ⟨a, c, ys, B2, rfl, ⟨P2, x.more (by omega)⟩, o, f⟩
theorem set_now (P : Pl) (s : SO.Sc) : (P.cells s).setIfInBounds 2 (.int .i64 (s.now + 1)) = P.cells (SO.tick0 s) := rfl
theorem Num.tick {s : SO.Sc} {N : Nat} (x : Num s N) : Num (SO.tick0 s) (N + 1) :=
  let y := x.more (Nat.le_succ N)
  ⟨by have := x.n1; show 0 ≤ s.now + 1; omega, by have := x.n2; show s.now + 1 ≤ _; push_cast; omega, y.q1, y.q2, y.s1, y.s2, y.m1, y.m2, y.m3, y.p1, y.p2, y.ok, y.el, y.ll, y.l1, y.hh⟩
theorem Tick_nil (d : Int) (W : World) : Calls Try.prog 6 #[.pointer none, .int .i64 d] W fun e w' => e = .returned (.slice none 0 0) ∧ w' = W := by
  go_enter Try.func6, Try.ntmps6
  go_wp2_with fail
  go_ret
  exact ⟨rfl, rfl⟩
theorem those_over {w W : World} {p : Nat} {P : Pl} {B : Nat → Prop} {N : Nat} {s : SO.Sc} (x : S0 w p P B N s W) (hN : N ≤ 100000000000) :
    Calls Try.prog 16 #[.pointer (some ⟨p, 0, none⟩), .func (.func 17) #[.pointer (some ⟨p, 0, none⟩)] #[]] W fun e w' => ∃ a c, e = .returned (.slice a (SO.those s (SO.overdue s)).length c) ∧ RS lyI w' a (SO.those s (SO.overdue s)) ∧ Bl W w' ∧ ∀ g off, a = some ⟨g, off, none⟩ → W.heap.size ≤ g ∧ g < w'.heap.size := by
  refine those_x x 17 (SO.overdue s) (enters_of Try.func17 (by kernel_rfl) rfl) (fun W' m hm hb => isOverdue_x (x.grow hb) hN m ?_)
  have := (K.all_of x.num.ok hm).2
  exact ⟨by have := this.1; omega, this.2.1⟩
/-- a tick's end: who was doubted too long -/
structure TkE (w : World) (p : Nat) (B : Nat → Prop) (W : World) (N : Nat) (s : SO.Sc) (a : Option Addr) (ys : List Sn) (fs : List SO.Fr) (w1 : World) : Prop where
  len : (SO.those s (SO.overdue s)).length ≤ 6
  those : Calls Try.prog 16 #[.pointer (some ⟨p, 0, none⟩), .func (.func 17) #[.pointer (some ⟨p, 0, none⟩)] #[]] w1.drew fun e w' => ∃ a2 c2, e = .returned (.slice a2 (SO.those s (SO.overdue s)).length c2) ∧ TkL w p B W N s a ys fs a2 (SO.those s (SO.overdue s)) 0 w'
  turn : ∀ a2 k y wr, TkL w p B W N s a ys fs a2 (SO.those s (SO.overdue s)) k wr → (SO.those s (SO.overdue s))[k]? = some y → Calls Try.prog 18 #[.pointer (some ⟨p, 0, none⟩), .int .i64 y, .int .i64 2] wr fun e w' => e = .returned (.tuple #[]) ∧ TkL w p B W N s a ys fs a2 (SO.those s (SO.overdue s)) (k + 1) w'
theorem tkE {w W w1 : World} {p N : Nat} {B B1 : Nat → Prop} {P1 : Pl} {s : SO.Sc} {a : Option Addr} {ys : List Sn} {fs : List SO.Fr} (x : S0 w p P1 B1 N s w1) (o : OS B B1 W w1) (f : FRS w1 (fun g => W.heap.size ≤ g ∧ ¬ B1 g) a ys fs) (hN : N ≤ 10000000000) : TkE w p B W N s a ys fs w1 := by
  refine ⟨those_len _ _, ?_, fun a2 k y wr h hy => ?_⟩
  · refine (those_over (x.grow (Bl.refl w1).drew) (by omega)).mono ?_
    rintro e w' ⟨a2, c2, rfl, h1, h2, h3⟩
    refine ⟨a2, c2, rfl, TkL.start x o f ((Bl.refl w1).drew.step h2) h1 (fun g off e => h3 g off e)⟩
  · have hm := those_mem x.num (List.mem_of_getElem? hy)
    have hk : k < 6 := by have := (List.getElem?_eq_some_iff.1 hy).1; have := those_len s (SO.overdue s); omega
    exact h.turn hy (i64_6 hm) (by omega)
theorem ans_tkE {w W w1 : World} {p N : Nat} {B : Nat → Prop} {s : SO.Sc} {fs : List SO.Fr} {e : Ending} (h : Ans w p B W N s fs e w1) (hN : N ≤ 10000000000) : ∃ a c ys, e = .returned (.slice a fs.length c) ∧ TkE w p B W N s a ys fs w1 := by
  obtain ⟨a, c, ys, B', h1, ⟨P', h2⟩, h3, h4⟩ := h
  exact ⟨a, c, ys, h1, tkE h2 h3 h4 hN⟩
set_option maxRecDepth 8000 in
set_option maxHeartbeats 4000000 in
theorem Tick_x {w W : World} {p : Nat} {P : Pl} {B : Nat → Prop} {N : Nat} {s : SO.Sc} (x : S0 w p P B N s W) (hN : N ≤ 1000000000) (d : Int) (hd : i64 d) :
    Calls Try.prog 6 #[.pointer (some ⟨p, 0, none⟩), .int .i64 d] W fun e w' => Ans w p B W (N + 10) (SO.tick s d).1 (SO.tick s d).2 e w' := by
  have c2 := x.c2
  have f2 := x.fz 2
  have n1 := x.num.n1
  have n2 := x.num.n2
  obtain ⟨x1, o1⟩ := x.set (s' := SO.tick0 s) (Nat.le_succ N) 2 (.int .i64 (s.now + 1)) (set_now P s) rfl rfl x.num.tick rfl rfl rfl
  have C1 : Hid (Calls Try.prog 12 #[.pointer (some ⟨p, 0, none⟩)] (W.setCell ⟨p, 2, none⟩ (.int .i64 (s.now + 1))) fun e w' => e = .returned (.bool (SO.left (SO.tick0 s))) ∧ ∃ P' , S0 w p P' B (N + 1) (SO.tick0 s) w' ∧ OS B B W w' ∧ w'.cell? ⟨p, 2, none⟩ = some (.int .i64 (s.now + 1))) := by
    refine (hasLeft_x x1).mono ?_
    rintro e w' ⟨rfl, hb⟩
    have x2 := x1.grow hb
    exact ⟨rfl, P, x2, o1.trans (OS.of_bl hb), x2.c2⟩
  have hnow : (SO.tick0 s).now = s.now + 1 := rfl
  have hnow1 : 1 ≤ (SO.tick0 s).now := by rw [hnow]; omega
  clear x x1 o1
  cases hlf : SO.left (SO.tick0 s) with
  | true =>
    rw [hlf] at C1
    have HE : Hid ((SO.tick s d).1 = SO.tick0 s ∧ (SO.tick s d).2 = []) := by
      show _ ∧ _
      unfold SO.tick; rw [if_pos hlf]; exact ⟨rfl, rfl⟩
    rw [HE.out.1, HE.out.2]
    generalize s.now = now at *
    clear HE hlf hnow hnow1
    generalize SO.tick0 s = s1 at *
    go_enter Try.func6, Try.ntmps6
    go_wp2_with (go_at_call 12; refine (C1.out).mono ?_; clear C1; rintro e w1 ⟨rfl, P1, h1, h2, k2⟩; have HX := hidI (SX.of h1 h2); clear h1 h2)
    go_ret
    exact ans_none (HX.out.more (by omega))
  | false =>
    rw [hlf] at C1
    have hm4 : s.now % 4 = 0 ∨ s.now % 4 = 1 ∨ s.now % 4 = 2 ∨ s.now % 4 = 3 := by omega
    have hmm : ((SO.tick0 s).now - 1).tmod 4 = s.now % 4 := by rw [hnow, Int.add_sub_cancel, Int.tmod_eq_emod_of_nonneg n1]
    rcases hm4 with hm | hm | hm | hm
    all_goals rw [hm] at hmm
    · obtain ⟨s3, hs3⟩ : ∃ s3, (SO.mid (SO.tick0 s) d).1 = s3 := ⟨_, rfl⟩
      obtain ⟨fs3, hfs3⟩ : ∃ fs3, (SO.mid (SO.tick0 s) d).2 = fs3 := ⟨_, rfl⟩
      have HMID : Hid ((s3, fs3) = SO.ask (SO.tick0 s) d) := by
        show _ = _
        rw [← hs3, ← hfs3]
        unfold SO.mid
        rw [hmm]
        rfl
      have FIN0 : Hid (∀ e w', Ans w p B W (N + 2 + 6) (SO.gone s3 (SO.those s3 (SO.overdue s3))) fs3 e w' → Ans w p B W (N + 10) (SO.tick s d).1 (SO.tick s d).2 e w') := fun e w' h => by
        have e1 : SO.tick s d = (SO.over (SO.mid (SO.tick0 s) d).1, (SO.mid (SO.tick0 s) d).2) := by unfold SO.tick; rw [if_neg (by rw [hlf]; decide)]
        rw [e1, hs3, hfs3]
        exact h.more (by omega)
      have CK : Hid (∀ P1 U, S0 w p P1 B (N + 1) (SO.tick0 s) U → OS B B W U → Calls Try.prog 13 #[.pointer (some ⟨p, 0, none⟩), .int .i64 d] U fun e w' => ∃ a c ys, e = .returned (.slice a fs3.length c) ∧ TkE w p B W (N + 2) s3 a ys fs3 w') := fun P1 U h1 h2 => by
        refine (ask_x h1 (by omega) hnow1 d hd).mono ?_
        rintro e w' h
        have h3 := Ans.from h2 h
        rw [← congrArg Prod.fst HMID.out, ← congrArg Prod.snd HMID.out] at h3
        exact ans_tkE h3 (by omega)
      have hll := those_len s3 (SO.overdue s3)
      clear HMID hs3 hfs3 hlf hmm hnow hnow1 hd
      generalize s.now = now at *
      have hmod1 : (now + 1 - 1) % 4 = 0 := by rw [Int.add_sub_cancel]; exact hm
      have hmod2 : (now + 1 - 1).tmod 4 = 0 := by rw [Int.tmod_eq_emod_of_nonneg (by omega)]; exact hmod1
      go_enter Try.func6, Try.ntmps6
      go_wp2_with (first
        | (go_at_call 12; refine (C1.out).mono ?_; clear C1; rintro e w1 ⟨rfl, P1, h1, h2, k2⟩; have H1 := hidI (And.intro h1 h2); clear h1 h2)
        | (go_at_call 13; refine (CK.out _ _ H1.out.1 H1.out.2).mono ?_; clear CK H1; rintro e w3 ⟨a3, c3, ys3, rfl, te⟩; have TE := hidI te; clear te k2))
      go_region_with (go_at_call 16; refine (TE.out.those).mono ?_; rintro e w4 ⟨a2, c2, rfl, ht⟩; have HT := hidI ht; clear ht)
      go_wp2_with fail
      (try simp only [Act.put, List.getElem_toArray, List.getElem_cons_succ, List.getElem_cons_zero, List.setIfInBounds_toArray, List.set_cons_zero, List.set_cons_succ])
      go_loopw [7, 50] (fun _ u50 wr => ∃ k : Nat, k ≤ (SO.those s3 (SO.overdue s3)).length ∧ u50 = .int .i64 (k : Int) ∧ TkL w p B W (N + 2) s3 a3 ys3 fs3 a2 (SO.those s3 (SO.overdue s3)) k wr) (fun _ u50 _ => (SO.those s3 (SO.overdue s3)).length - (intOf u50).toNat)
      case atStart => exact ⟨0, by omega, rfl, HT.out⟩
      case round =>
        obtain ⟨k, hk, rfl, ht⟩ := hrel
        clear HT
        by_cases hlt : k < (SO.those s3 (SO.overdue s3)).length
        · obtain ⟨y, hy⟩ : ∃ y, (SO.those s3 (SO.overdue s3))[k]? = some y := ⟨(SO.those s3 (SO.overdue s3))[k], List.getElem?_eq_getElem hlt⟩
          obtain ⟨b, off, rfl, hbb, ky⟩ := ht.r.at1 hy
          have CT := hidI (TE.out.turn _ k y wr ht hy)
          clear hy ht TE
          go_wp2_with (go_at_call 18; refine (CT.out).mono ?_; clear CT; rintro e w5 ⟨rfl, h5⟩; have H5 := hidI h5; clear h5)
          go_roundw
          case rel => exact ⟨k + 1, by omega, by go_num, H5.out⟩
          case measure => simp [intOf]; omega
        · obtain rfl : k = (SO.those s3 (SO.overdue s3)).length := by omega
          have HF := hidI (ht.end (c := c3) hll)
          clear ht TE
          go_wp2_with fail
          go_ret
          exact FIN0.out _ _ HF.out
    · obtain ⟨s3, hs3⟩ : ∃ s3, (SO.mid (SO.tick0 s) d).1 = s3 := ⟨_, rfl⟩
      obtain ⟨fs3, hfs3⟩ : ∃ fs3, (SO.mid (SO.tick0 s) d).2 = fs3 := ⟨_, rfl⟩
      have HMID : Hid ((s3, fs3) = (SO.tick0 s, [])) := by
        show _ = _
        rw [← hs3, ← hfs3]
        unfold SO.mid
        rw [hmm]
        rfl
      have FIN0 : Hid (∀ e w', Ans w p B W (N + 2 + 6) (SO.gone s3 (SO.those s3 (SO.overdue s3))) fs3 e w' → Ans w p B W (N + 10) (SO.tick s d).1 (SO.tick s d).2 e w') := fun e w' h => by
        have e1 : SO.tick s d = (SO.over (SO.mid (SO.tick0 s) d).1, (SO.mid (SO.tick0 s) d).2) := by unfold SO.tick; rw [if_neg (by rw [hlf]; decide)]
        rw [e1, hs3, hfs3]
        exact h.more (by omega)
      have CK : Hid (∀ P1 U, S0 w p P1 B (N + 1) (SO.tick0 s) U → OS B B W U → TkE w p B W (N + 2) s3 none [] fs3 U) := fun P1 U h1 h2 => by
        have e3 : s3 = SO.tick0 s := congrArg Prod.fst HMID.out
        have e4 : fs3 = [] := congrArg Prod.snd HMID.out
        rw [e3, e4]
        exact tkE (h1.more (Nat.le_succ _)) h2 (FRS.nil _ _) (by omega)
      have hll := those_len s3 (SO.overdue s3)
      have HF0 : fs3 = [] := congrArg Prod.snd HMID.out
      clear HMID hs3 hfs3 hlf hmm hnow hnow1 hd
      generalize s.now = now at *
      have hmod1 : (now + 1 - 1) % 4 = 1 := by rw [Int.add_sub_cancel]; exact hm
      have hmod2 : (now + 1 - 1).tmod 4 = 1 := by rw [Int.tmod_eq_emod_of_nonneg (by omega)]; exact hmod1
      subst HF0
      go_enter Try.func6, Try.ntmps6
      go_wp2_with (go_at_call 12; refine (C1.out).mono ?_; clear C1; rintro e w1 ⟨rfl, P1, h1, h2, k2⟩; have TE := hidI (CK.out _ _ h1 h2); clear CK h1 h2)
      go_region_with (go_at_call 16; refine (TE.out.those).mono ?_; rintro e w4 ⟨a2, c2, rfl, ht⟩; have HT := hidI ht; clear ht)
      go_wp2_with fail
      (try simp only [Act.put, List.getElem_toArray, List.getElem_cons_succ, List.getElem_cons_zero, List.setIfInBounds_toArray, List.set_cons_zero, List.set_cons_succ])
      go_loopw [7, 50] (fun _ u50 wr => ∃ k : Nat, k ≤ (SO.those s3 (SO.overdue s3)).length ∧ u50 = .int .i64 (k : Int) ∧ TkL w p B W (N + 2) s3 none [] [] a2 (SO.those s3 (SO.overdue s3)) k wr) (fun _ u50 _ => (SO.those s3 (SO.overdue s3)).length - (intOf u50).toNat)
      case atStart => exact ⟨0, by omega, rfl, HT.out⟩
      case round =>
        obtain ⟨k, hk, rfl, ht⟩ := hrel
        clear HT
        by_cases hlt : k < (SO.those s3 (SO.overdue s3)).length
        · obtain ⟨y, hy⟩ : ∃ y, (SO.those s3 (SO.overdue s3))[k]? = some y := ⟨(SO.those s3 (SO.overdue s3))[k], List.getElem?_eq_getElem hlt⟩
          obtain ⟨b, off, rfl, hbb, ky⟩ := ht.r.at1 hy
          have CT := hidI (TE.out.turn _ k y wr ht hy)
          clear hy ht TE
          go_wp2_with (go_at_call 18; refine (CT.out).mono ?_; clear CT; rintro e w5 ⟨rfl, h5⟩; have H5 := hidI h5; clear h5)
          go_roundw
          case rel => exact ⟨k + 1, by omega, by go_num, H5.out⟩
          case measure => simp [intOf]; omega
        · obtain rfl : k = (SO.those s3 (SO.overdue s3)).length := by omega
          have HF := hidI (ht.end (c := 0) hll)
          clear ht TE
          go_wp2_with fail
          go_ret
          exact FIN0.out _ _ HF.out
    · obtain ⟨s3, hs3⟩ : ∃ s3, (SO.mid (SO.tick0 s) d).1 = s3 := ⟨_, rfl⟩
      obtain ⟨fs3, hfs3⟩ : ∃ fs3, (SO.mid (SO.tick0 s) d).2 = fs3 := ⟨_, rfl⟩
      have HMID : Hid ((s3, fs3) = SO.askH (SO.tick0 s)) := by
        show _ = _
        rw [← hs3, ← hfs3]
        unfold SO.mid
        rw [hmm]
        rfl
      have FIN0 : Hid (∀ e w', Ans w p B W (N + 2 + 6) (SO.gone s3 (SO.those s3 (SO.overdue s3))) fs3 e w' → Ans w p B W (N + 10) (SO.tick s d).1 (SO.tick s d).2 e w') := fun e w' h => by
        have e1 : SO.tick s d = (SO.over (SO.mid (SO.tick0 s) d).1, (SO.mid (SO.tick0 s) d).2) := by unfold SO.tick; rw [if_neg (by rw [hlf]; decide)]
        rw [e1, hs3, hfs3]
        exact h.more (by omega)
      have CK : Hid (∀ P1 U, S0 w p P1 B (N + 1) (SO.tick0 s) U → OS B B W U → Calls Try.prog 14 #[.pointer (some ⟨p, 0, none⟩)] U fun e w' => ∃ a c ys, e = .returned (.slice a fs3.length c) ∧ TkE w p B W (N + 2) s3 a ys fs3 w') := fun P1 U h1 h2 => by
        refine (askHelpers_x h1).mono ?_
        rintro e w' h
        have h3 := (Ans.from h2 h).more (Nat.le_succ _)
        rw [← congrArg Prod.fst HMID.out, ← congrArg Prod.snd HMID.out] at h3
        exact ans_tkE h3 (by omega)
      have hll := those_len s3 (SO.overdue s3)
      clear HMID hs3 hfs3 hlf hmm hnow hnow1 hd
      generalize s.now = now at *
      have hmod1 : (now + 1 - 1) % 4 = 2 := by rw [Int.add_sub_cancel]; exact hm
      have hmod2 : (now + 1 - 1).tmod 4 = 2 := by rw [Int.tmod_eq_emod_of_nonneg (by omega)]; exact hmod1
      go_enter Try.func6, Try.ntmps6
      go_wp2_with (first
        | (go_at_call 12; refine (C1.out).mono ?_; clear C1; rintro e w1 ⟨rfl, P1, h1, h2, k2⟩; have H1 := hidI (And.intro h1 h2); clear h1 h2)
        | (go_at_call 14; refine (CK.out _ _ H1.out.1 H1.out.2).mono ?_; clear CK H1; rintro e w3 ⟨a3, c3, ys3, rfl, te⟩; have TE := hidI te; clear te k2))
      go_region_with (go_at_call 16; refine (TE.out.those).mono ?_; rintro e w4 ⟨a2, c2, rfl, ht⟩; have HT := hidI ht; clear ht)
      go_wp2_with fail
      (try simp only [Act.put, List.getElem_toArray, List.getElem_cons_succ, List.getElem_cons_zero, List.setIfInBounds_toArray, List.set_cons_zero, List.set_cons_succ])
      go_loopw [7, 50] (fun _ u50 wr => ∃ k : Nat, k ≤ (SO.those s3 (SO.overdue s3)).length ∧ u50 = .int .i64 (k : Int) ∧ TkL w p B W (N + 2) s3 a3 ys3 fs3 a2 (SO.those s3 (SO.overdue s3)) k wr) (fun _ u50 _ => (SO.those s3 (SO.overdue s3)).length - (intOf u50).toNat)
      case atStart => exact ⟨0, by omega, rfl, HT.out⟩
      case round =>
        obtain ⟨k, hk, rfl, ht⟩ := hrel
        clear HT
        by_cases hlt : k < (SO.those s3 (SO.overdue s3)).length
        · obtain ⟨y, hy⟩ : ∃ y, (SO.those s3 (SO.overdue s3))[k]? = some y := ⟨(SO.those s3 (SO.overdue s3))[k], List.getElem?_eq_getElem hlt⟩
          obtain ⟨b, off, rfl, hbb, ky⟩ := ht.r.at1 hy
          have CT := hidI (TE.out.turn _ k y wr ht hy)
          clear hy ht TE
          go_wp2_with (go_at_call 18; refine (CT.out).mono ?_; clear CT; rintro e w5 ⟨rfl, h5⟩; have H5 := hidI h5; clear h5)
          go_roundw
          case rel => exact ⟨k + 1, by omega, by go_num, H5.out⟩
          case measure => simp [intOf]; omega
        · obtain rfl : k = (SO.those s3 (SO.overdue s3)).length := by omega
          have HF := hidI (ht.end (c := c3) hll)
          clear ht TE
          go_wp2_with fail
          go_ret
          exact FIN0.out _ _ HF.out
    · obtain ⟨s3, hs3⟩ : ∃ s3, (SO.mid (SO.tick0 s) d).1 = s3 := ⟨_, rfl⟩
      obtain ⟨fs3, hfs3⟩ : ∃ fs3, (SO.mid (SO.tick0 s) d).2 = fs3 := ⟨_, rfl⟩
      have HMID : Hid ((s3, fs3) = (SO.doubt (SO.tick0 s), [])) := by
        show _ = _
        rw [← hs3, ← hfs3]
        unfold SO.mid
        rw [hmm]
        rfl
      have FIN0 : Hid (∀ e w', Ans w p B W (N + 2 + 6) (SO.gone s3 (SO.those s3 (SO.overdue s3))) fs3 e w' → Ans w p B W (N + 10) (SO.tick s d).1 (SO.tick s d).2 e w') := fun e w' h => by
        have e1 : SO.tick s d = (SO.over (SO.mid (SO.tick0 s) d).1, (SO.mid (SO.tick0 s) d).2) := by unfold SO.tick; rw [if_neg (by rw [hlf]; decide)]
        rw [e1, hs3, hfs3]
        exact h.more (by omega)
      have CK : Hid (∀ P1 U, S0 w p P1 B (N + 1) (SO.tick0 s) U → OS B B W U → Calls Try.prog 15 #[.pointer (some ⟨p, 0, none⟩)] U fun e w' => e = .returned (.tuple #[]) ∧ TkE w p B W (N + 2) s3 none [] fs3 w') := fun P1 U h1 h2 => by
        refine (doubt_x h1 (by omega)).mono ?_
        rintro e w' ⟨rfl, h⟩
        obtain ⟨B3, ⟨P3, h3⟩, h4⟩ := SX.trans h2 h
        have e3 : s3 = SO.doubt (SO.tick0 s) := congrArg Prod.fst HMID.out
        have e4 : fs3 = [] := congrArg Prod.snd HMID.out
        rw [e3, e4]
        exact ⟨rfl, tkE h3 h4 (FRS.nil _ _) (by omega)⟩
      have hll := those_len s3 (SO.overdue s3)
      have HF0 : fs3 = [] := congrArg Prod.snd HMID.out
      clear HMID hs3 hfs3 hlf hmm hnow hnow1 hd
      generalize s.now = now at *
      have hmod1 : (now + 1 - 1) % 4 = 3 := by rw [Int.add_sub_cancel]; exact hm
      have hmod2 : (now + 1 - 1).tmod 4 = 3 := by rw [Int.tmod_eq_emod_of_nonneg (by omega)]; exact hmod1
      subst HF0
      go_enter Try.func6, Try.ntmps6
      go_wp2_with (first
        | (go_at_call 12; refine (C1.out).mono ?_; clear C1; rintro e w1 ⟨rfl, P1, h1, h2, k2⟩; have H1 := hidI (And.intro h1 h2); clear h1 h2)
        | (go_at_call 15; refine (CK.out _ _ H1.out.1 H1.out.2).mono ?_; clear CK H1; rintro e w3 ⟨rfl, te⟩; have TE := hidI te; clear te k2))
      go_region_with (go_at_call 16; refine (TE.out.those).mono ?_; rintro e w4 ⟨a2, c2, rfl, ht⟩; have HT := hidI ht; clear ht)
      go_wp2_with fail
      (try simp only [Act.put, List.getElem_toArray, List.getElem_cons_succ, List.getElem_cons_zero, List.setIfInBounds_toArray, List.set_cons_zero, List.set_cons_succ])
      go_loopw [7, 50] (fun _ u50 wr => ∃ k : Nat, k ≤ (SO.those s3 (SO.overdue s3)).length ∧ u50 = .int .i64 (k : Int) ∧ TkL w p B W (N + 2) s3 none [] [] a2 (SO.those s3 (SO.overdue s3)) k wr) (fun _ u50 _ => (SO.those s3 (SO.overdue s3)).length - (intOf u50).toNat)
      case atStart => exact ⟨0, by omega, rfl, HT.out⟩
      case round =>
        obtain ⟨k, hk, rfl, ht⟩ := hrel
        clear HT
        by_cases hlt : k < (SO.those s3 (SO.overdue s3)).length
        · obtain ⟨y, hy⟩ : ∃ y, (SO.those s3 (SO.overdue s3))[k]? = some y := ⟨(SO.those s3 (SO.overdue s3))[k], List.getElem?_eq_getElem hlt⟩
          obtain ⟨b, off, rfl, hbb, ky⟩ := ht.r.at1 hy
          have CT := hidI (TE.out.turn _ k y wr ht hy)
          clear hy ht TE
          go_wp2_with (go_at_call 18; refine (CT.out).mono ?_; clear CT; rintro e w5 ⟨rfl, h5⟩; have H5 := hidI h5; clear h5)
          go_roundw
          case rel => exact ⟨k + 1, by omega, by go_num, H5.out⟩
          case measure => simp [intOf]; omega
        · obtain rfl : k = (SO.those s3 (SO.overdue s3)).length := by omega
          have HF := hidI (ht.end (c := 0) hll)
          clear ht TE
          go_wp2_with fail
          go_ret
          exact FIN0.out _ _ HF.out
end Go.Proofs.Ytebmgajijjhinaa
