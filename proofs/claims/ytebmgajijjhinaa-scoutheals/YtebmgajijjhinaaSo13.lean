/- chooseHelpers. -/
import Derived.Test.YtebmgajijjhinaaSo12
namespace Go.Proofs.Ytebmgajijjhinaa
open Go.RowKit Go.Maps
set_option linter.unusedVariables false
set_option linter.unusedSimpArgs false

/-- two rows of ints of one's own beside each other -/
structure TW (N : Nat) (u v : Value) (A C : List Int) (W : World) : Prop where
  a : W.ownsRow N 3 1 u A.length (flG lyI A)
  c : W.ownsRow N 3 1 v C.length (flG lyI C)
  d : ∀ g, u.ownBlock = some g → v.ownBlock = some g → False
theorem TW.bl {N : Nat} {u v : Value} {A C : List Int} {W W' : World} (h : TW N u v A C W) (hb : Bl W W') : TW N u v A C W' := ⟨ownsRow_bl h.a hb, ownsRow_bl h.c hb, h.d⟩
theorem TW.swap {N : Nat} {u v : Value} {A C : List Int} {W : World} (h : TW N u v A C W) : TW N v u C A W := ⟨h.c, h.a, fun g h1 h2 => h.d g h2 h1⟩
/-- the first row has grown -/
theorem TW.app {N : Nat} {u v : Value} {A A' C : List Int} {W W' : World} (h : TW N u v A C W) {g c' : Nat} (h1 : W'.ownsRow N 3 1 (.slice (some ⟨g, 0, none⟩) A'.length c') A'.length (flG lyI A')) (hg : W.grownBy W' u.ownBlock) (hgg : u.ownBlock = some g ∨ W.heap.size ≤ g) : TW N (.slice (some ⟨g, 0, none⟩) A'.length c') v A' C W' := by
  refine ⟨h1, own_keep h.c (fun q D e e2 => hg.block q (lt_heap e2) (fun e3 => h.d q e3.symm e)), fun q e1 e2 => ?_⟩
  have e3 : g = q := Option.some.inj e1
  subst e3
  rcases hgg with h3 | h3
  · exact h.d g h3 e2
  · have := (owns_ge h.c e2).2; omega
def fL (p : Int → Bool) (l : List Int) (k : Nat) : List Int := (l.take k).filter p
theorem fL_succ {p : Int → Bool} {l : List Int} {k : Nat} {x : Int} (h : l[k]? = some x) : fL p l (k + 1) = fL p l k ++ if p x = true then [x] else [] := by
  unfold fL
  rw [List.take_add_one, h, Option.toList_some, List.filter_append]
  congr 1
  by_cases e : p x = true <;> simp [e]
theorem fL_all (p : Int → Bool) (l : List Int) : fL p l l.length = l.filter p := by simp [fL]
theorem fL_len (p : Int → Bool) (l : List Int) (k : Nat) : (fL p l k).length ≤ l.length := by
  unfold fL
  have h1 := List.length_filter_le p (l.take k)
  have h2 := List.length_take_le' k l
  omega
theorem grown_new {N : Nat} {W0 W W' : World} {o : Option Nat} (hb : Bl W0 W) (hN : W0.heap.size ≤ N) (ho : ∀ g, o = some g → N ≤ g) (hg : W.grownBy W' o) : Bl W0 W' :=
  ⟨hg.os.trans hb.os, hg.tape.trans hb.tape, hg.output.trans hb.output, Nat.le_trans hb.size hg.size, fun k hk => (hg.block k (Nat.lt_of_lt_of_le hk hb.size) (fun e => by have := ho k e.symm; omega)).trans (hb.block k hk)⟩
theorem RT.take {α : Type} {E : Lay α} {T : TypeId} {W : World} {a : Option Addr} {l : List α} (h : RT E T W a l) (k : Nat) : RT E T W a (l.take k) := fun i x hx => by
  refine h i x ?_
  rw [List.getElem?_take] at hx
  split at hx
  · exact hx
  · cases hx
set_option maxRecDepth 8000 in
set_option maxHeartbeats 4000000 in
theorem chooseHelpers_x {w W : World} {p : Nat} {P : Pl} {B : Nat → Prop} {N : Nat} {s : SO.Sc} (x : S0 w p P B N s W) :
    Calls Try.prog 35 #[.pointer (some ⟨p, 0, none⟩)] W fun e w' => ∃ a c, e = .returned (.slice a (SO.helpers s).length c) ∧ RT lyI tIn w' a (SO.helpers s) ∧ Bl W w' ∧ ∀ g off, a = some ⟨g, off, none⟩ → W.heap.size ≤ g ∧ g < w'.heap.size := by
  have C1 : Hid (Calls Try.prog 51 #[.pointer (some ⟨p, 0, none⟩)] W fun e w' => ∃ a c, e = .returned (.slice a (SO.oth s).length c) ∧ RS lyI w' a (SO.oth s) ∧ Bl W w') := by
    refine (others_x x).mono ?_
    rintro e w' ⟨v, rfl, h1, h2⟩
    obtain ⟨a, c, rfl, hr⟩ := owns_rs lyI h1
    exact ⟨a, c, rfl, hr, h2⟩
  have c14 : Hid (∀ U, Bl W U → U.cell? ⟨p, 14, none⟩ = some (.int .i64 s.pn)) := fun U h => (x.grow h).c14
  have HH : Hid (SO.helpers s = ((SO.oth s).filter (fun k => decide (k > s.pn)) ++ (SO.oth s).filter (fun k => decide (k < s.pn))).take 2) := rfl
  have hol := oth_len s
  generalize SO.helpers s = hs at *
  generalize s.pn = pn at *
  generalize SO.oth s = l at *
  clear x
  go_enter Try.func35, Try.ntmps35
  go_wp2_with (go_at_call 51; refine (C1.out).mono ?_; clear C1; rintro e W1 ⟨a, c, rfl, hr, hb⟩)
  have HR := hidI hr
  have HB1 := hidI hb
  clear hr hb
  go_loopw [3, 4, 6, 11] (fun u3 u4 _ u11 wr => ∃ k : Nat, k ≤ l.length ∧ u11 = .int .i64 (k : Int) ∧ Bl W1 wr ∧ TW W1.heap.size u3 u4 (fL (fun k => decide (k < pn)) l k) (fL (fun k => decide (k > pn)) l k) wr) (fun _ _ _ u11 _ => l.length - (intOf u11).toNat)
  case atStart => exact ⟨0, by omega, rfl, Bl.refl _, ⟨⟨rfl, Or.inl ⟨rfl, rfl⟩⟩, ⟨rfl, Or.inl ⟨rfl, rfl⟩⟩, fun g e => by cases e⟩⟩
  case round =>
    obtain ⟨k, hk, rfl, hbl, ht⟩ := hrel
    by_cases hlt : k < l.length
    · obtain ⟨y, hy⟩ : ∃ y, l[k]? = some y := ⟨l[k], List.getElem?_eq_getElem hlt⟩
      obtain ⟨b, off, rfl, hbb, ky⟩ := (HR.out.bl hbl).at1 hy
      have k14 := c14.out _ (HB1.out.step hbl)
      have S1 : Hid (fL (fun k => decide (k < pn)) l (k + 1) = fL (fun k => decide (k < pn)) l k ++ if decide (y < pn) = true then [y] else []) := fL_succ hy
      have S2 : Hid (fL (fun k => decide (k > pn)) l (k + 1) = fL (fun k => decide (k > pn)) l k ++ if decide (y > pn) = true then [y] else []) := fL_succ hy
      have l1 := fL_len (fun k => decide (k < pn)) l k
      have l2 := fL_len (fun k => decide (k > pn)) l k
      generalize fL (fun k => decide (k < pn)) l k = A at *
      generalize fL (fun k => decide (k > pn)) l k = C at *
      have HBL := hidI hbl
      have HT := hidI ht
      have hsz : W1.heap.size ≤ wr.heap.size := Below.size hbl
      clear hy hbl ht HR
      rcases (by omega : y < pn ∨ y > pn ∨ y = pn) with hc | hc | hc
      · have E1 : Hid (fL (fun k => decide (k < pn)) l (k + 1) = A ++ [y]) := by show _ = _; rw [S1.out, decide_eq_true hc]; rfl
        have E2 : Hid (fL (fun k => decide (k > pn)) l (k + 1) = C) := by show _ = _; rw [S2.out, decide_eq_false (by omega)]; simp
        have hc2 : ¬ (y > pn) := by omega
        clear S1 S2
        go_wp2_with (refine wl_app1X lyI 3 23 (.int .i64 0) 8 undIs infoIn3 rfl (by decide) rfl _ _ rfl W1.heap.size A.length A rfl y u3 rfl hsz HT.out.a wr.heap.size rfl rfl (by omega) ?_ _ rfl rfl; intro g c' w2 g1 g2 g3 g4; have k14 := c14.out _ (HB1.out.step (grown_new HBL.out (Nat.le_refl _) (fun q e => (owns_ge HT.out.a e).1) g2)); have G1 := hidI g1; have G2 := hidI g2; have G3 := hidI g3; clear g1 g2 g3 g4)
        have z1 : TW W1.heap.size (.slice (some ⟨g, 0, none⟩) (A.length + 1) c') u4 (fL (fun k => decide (k < pn)) l (k + 1)) (fL (fun k => decide (k > pn)) l (k + 1)) w2 := by
          have := HT.out.app (A' := A ++ [y]) (g := g) (c' := c') (by rw [List.length_append]; exact G1.out) G2.out G3.out
          rw [List.length_append] at this
          rw [E1.out, E2.out]; exact this
        go_roundw
        case rel => exact ⟨k + 1, by omega, by go_num, grown_new HBL.out (Nat.le_refl _) (fun q e => (owns_ge HT.out.a e).1) G2.out, z1⟩
        case measure => simp [intOf]; omega
      · have E1 : Hid (fL (fun k => decide (k < pn)) l (k + 1) = A) := by show _ = _; rw [S1.out, decide_eq_false (by omega)]; simp
        have E2 : Hid (fL (fun k => decide (k > pn)) l (k + 1) = C ++ [y]) := by show _ = _; rw [S2.out, decide_eq_true hc]; rfl
        have hc2 : ¬ (y < pn) := by omega
        clear S1 S2
        go_wp2_with (refine wl_app1X lyI 3 23 (.int .i64 0) 8 undIs infoIn3 rfl (by decide) rfl _ _ rfl W1.heap.size C.length C rfl y u4 rfl hsz HT.out.c wr.heap.size rfl rfl (by omega) ?_ _ rfl rfl; intro g c' w2 g1 g2 g3 g4; have G1 := hidI g1; have G2 := hidI g2; have G3 := hidI g3; clear g1 g2 g3 g4)
        have z1 : TW W1.heap.size u3 (.slice (some ⟨g, 0, none⟩) (C.length + 1) c') (fL (fun k => decide (k < pn)) l (k + 1)) (fL (fun k => decide (k > pn)) l (k + 1)) w2 := by
          have := HT.out.swap.app (A' := C ++ [y]) (g := g) (c' := c') (by rw [List.length_append]; exact G1.out) G2.out G3.out
          rw [List.length_append] at this
          rw [E1.out, E2.out]; exact this.swap
        go_roundw
        case rel => exact ⟨k + 1, by omega, by go_num, grown_new HBL.out (Nat.le_refl _) (fun q e => (owns_ge HT.out.c e).1) G2.out, z1⟩
        case measure => simp [intOf]; omega
      · have E1 : Hid (fL (fun k => decide (k < pn)) l (k + 1) = A) := by show _ = _; rw [S1.out, decide_eq_false (by omega)]; simp
        have E2 : Hid (fL (fun k => decide (k > pn)) l (k + 1) = C) := by show _ = _; rw [S2.out, decide_eq_false (by omega)]; simp
        have hc2 : ¬ (y < pn) := by omega
        have hc3 : ¬ (y > pn) := by omega
        clear S1 S2
        go_wp2_with fail
        go_roundw
        case rel => exact ⟨k + 1, by omega, by go_num, HBL.out, by rw [E1.out, E2.out]; exact HT.out⟩
        case measure => simp [intOf]; omega
    · obtain rfl : k = l.length := by omega
      have hta := ht.a
      have htc := ht.c
      have lA := fL_len (fun k => decide (k < pn)) l l.length
      have lC := fL_len (fun k => decide (k > pn)) l l.length
      rw [fL_all] at hta htc lA lC
      generalize l.filter (fun k => decide (k < pn)) = A at *
      generalize l.filter (fun k => decide (k > pn)) = C at *
      obtain ⟨a3, c3, rfl, r3⟩ := owns_rs lyI hta
      obtain ⟨a4, c4, rfl, r4⟩ := owns_rs lyI htc
      have CCc : Hid (Calls Try.prog 54 #[.slice (some ⟨wr.heap.size, 0, none⟩) 2 2] (wr.alloc (.cells #[.slice a4 C.length c4, .slice a3 A.length c3] 23)) fun e w' => ∃ a c, e = .returned (.slice a (C ++ A).length c) ∧ (C ++ A).length ≤ c ∧ RT lyI tIn w' a (C ++ A) ∧ Bl W w' ∧ ∀ g off, a = some ⟨g, off, none⟩ → W.heap.size ≤ g ∧ g < w'.heap.size) := by
        have hb2 : Bl wr (wr.alloc (.cells #[.slice a4 C.length c4, .slice a3 A.length c3] 23)) := (Bl.refl wr).alloc _
        have hn := heap_alloc_new wr (.cells #[.slice a4 C.length c4, .slice a3 A.length c3] 23)
        refine (Concat_x (b := wr.heap.size) (a1 := a4) (c1 := c4) (l1 := C) (a2 := a3) (c2 := c3) (l2 := A) ⟨by rw [Lib.cell_of_heap hn]; rfl, by rw [Lib.cell_of_heap hn]; rfl, by simp, r4.bl hb2, r3.bl hb2⟩ (by omega) (by omega)).mono ?_
        rintro e w' ⟨v, rfl, g1, g2⟩
        have hge : ∀ g, v.ownBlock = some g → (wr.alloc (.cells #[.slice a4 C.length c4, .slice a3 A.length c3] 23)).heap.size ≤ g ∧ g < w'.heap.size := fun g e => owns_ge g1 e
        have hcap : ∃ a c, v = .slice a (C ++ A).length c ∧ (C ++ A).length ≤ c := by
          obtain ⟨_, ⟨h5, h6⟩ | ⟨g', cap', cur, h5, _, _, h6, _⟩⟩ := g1
          · exact ⟨none, 0, by rw [h5, h6], by omega⟩
          · exact ⟨_, cap', h5, h6⟩
        obtain ⟨a, c, rfl, hcc⟩ := hcap
        obtain ⟨a', c', e', hrt⟩ := owns_rt lyI g1
        cases e'
        refine ⟨a, c, rfl, hcc, hrt, (HB1.out.step hbl).step (hb2.step g2), fun g off e => ?_⟩
        have h7 := hge g (by rw [e]; rfl)
        have h8 := Below.size (HB1.out.step hbl)
        have h9 := Below.size hb2
        exact ⟨by omega, h7.2⟩
      have HHL : Hid (hs = (C ++ A).take 2) := HH.out
      clear hta htc r3 r4 ht hbl HR HB1 HH c14 lA lC
      generalize C ++ A = R at *
      by_cases h2 : 2 ≤ R.length
      · have hl : hs.length = 2 := by rw [HHL.out, List.length_take]; omega
        have hm : min (2 : Int) (R.length : Int) = 2 := by omega
        have HLL := hidI hl
        clear hl
        go_wp2_with (go_at_call 54; refine (CCc.out).mono ?_; clear CCc; rintro e w3 ⟨a, c, rfl, hcc, q1, q2, q3⟩; have Q1 := hidI q1; have Q2 := hidI q2; have Q3 := hidI q3; clear q1 q2 q3)
        go_ret
        exact ⟨a, c, by rw [HLL.out]; rfl, by rw [HHL.out]; exact Q1.out.take 2, Q2.out, Q3.out⟩
      · have hl : hs.length = R.length := by rw [HHL.out, List.length_take]; omega
        have hm : min (2 : Int) (R.length : Int) = R.length := by omega
        have HLL := hidI hl
        clear hl
        go_wp2_with (go_at_call 54; refine (CCc.out).mono ?_; clear CCc; rintro e w3 ⟨a, c, rfl, hcc, q1, q2, q3⟩; have Q1 := hidI q1; have Q2 := hidI q2; have Q3 := hidI q3; clear q1 q2 q3)
        go_ret
        exact ⟨a, c, by rw [HLL.out]; rfl, by rw [HHL.out]; exact Q1.out.take 2, Q2.out, Q3.out⟩
end Go.Proofs.Ytebmgajijjhinaa
