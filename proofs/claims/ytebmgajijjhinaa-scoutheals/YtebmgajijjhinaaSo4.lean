/- A scout learns a word. -/
import Derived.Test.YtebmgajijjhinaaSo3
namespace Go.Proofs.Ytebmgajijjhinaa
open Go.RowKit Go.Maps
set_option linter.unusedVariables false
set_option linter.unusedSimpArgs false

theorem S0.pushL {w W : World} {p : Nat} {P : Pl} {B : Nat → Prop} {N : Nat} {s : SO.Sc} (x : S0 w p P B N s W) {ms : List K.Me} {a : Option Addr} (c : Nat) (hr : RS lyM W a ms) (hl : ms.length ≤ 1000) (ha : ∀ g off, a = some ⟨g, off, none⟩ → ¬ B g) :
    Calls Try.prog 38 #[.pointer (some ⟨P.h, 0, none⟩), .slice a ms.length c] W fun e w' => e = .returned (.tuple #[]) ∧ ∃ v', S0 w p { P with v := v' } (fun k => B k ∨ v'.ownBlock = some k) N { s with F := HU.push 5 s.F ms } w' ∧ OS B (fun k => B k ∨ v'.ownBlock = some k) W w' := by
  refine (Push_x x.hl ms a c hr (fun _ q off e => ⟨fun e2 => ha q off e (e2 ▸ x.Bh), fun e2 => ha q off e (x.Bv q e2.symm)⟩) hl).mono ?_
  rintro e w' ⟨rfl, v', h1, h2⟩
  obtain ⟨h3, h4⟩ := x.hum h1 h2
  exact ⟨rfl, v', h3, h4⟩
theorem set_sn (P : Pl) (s : SO.Sc) (k : Nat) (hk : k < 7) (t : Int) : (P.cells s).setIfInBounds (3 + k) (.int .i64 t) = P.cells { s with sn := fun j => if j = (k : Int) then t else s.sn j } := by
  rcases (by omega : k = 0 ∨ k = 1 ∨ k = 2 ∨ k = 3 ∨ k = 4 ∨ k = 5 ∨ k = 6) with rfl | rfl | rfl | rfl | rfl | rfl | rfl <;> simp [Pl.cells, scC]
theorem Num.sn {s : SO.Sc} {N : Nat} (x : Num s N) (k : Int) : Num { s with sn := fun j => if j = k then s.now else s.sn j } N :=
  ⟨x.n1, x.n2, x.q1, x.q2, fun j => by simp only; split <;> first | exact x.n1 | exact x.s1 j, fun j => by simp only; split <;> first | exact x.n2 | exact x.s2 j, x.m1, x.m2, x.m3, x.p1, x.p2, x.ok, x.el, x.ll, x.l1, x.hh⟩
/-- in the middle of learning: the word was taken -/
structure LM (w : World) (p : Nat) (B : Nat → Prop) (W : World) (N : Nat) (s : SO.Sc) (a : Option Addr) (l : List K.Me) (wr : World) : Prop where
  ex : ∃ P' B', S0 w p P' B' N s wr ∧ OS B B' W wr
  rs : RS lyM wr a l
  ge : ∀ g off, a = some ⟨g, off, none⟩ → W.heap.size ≤ g
theorem LM.sx {w W wr : World} {p : Nat} {B : Nat → Prop} {N : Nat} {s : SO.Sc} {a : Option Addr} {l : List K.Me} (h : LM w p B W N s a l wr) : SX w p B W N s wr := by
  obtain ⟨P', B', h1, h2⟩ := h.ex
  exact SX.of h1 h2
theorem tak1 (f : K.Vw) (m : K.Me) : K.tak f [m] = if K.news f m = true then [m] else [] := by
  unfold K.tak
  split <;> rfl
set_option maxRecDepth 8000 in
set_option maxHeartbeats 2000000 in
theorem learn_x {w W : World} {p : Nat} {P : Pl} {B : Nat → Prop} {N : Nat} {s : SO.Sc} (x : S0 w p P B N s W) (hN : N ≤ 100000000000) (m : K.Me) (hm : i64 m.1) (a : Option Addr) (c : Nat) (hr : RS lyM W a [m]) :
    Calls Try.prog 36 #[.pointer (some ⟨p, 0, none⟩), .slice a 1 c] W fun e w' => e = .returned (.tuple #[]) ∧ SX w p B W (N + 1) (SO.learn s m) w' := by
  have c0 := x.c0
  have C1 : Hid (Calls Try.prog 49 #[.pointer (some ⟨P.q, 0, none⟩), .slice a 1 c] W fun e w' => ∃ a' c', e = .returned (.slice a' (K.tak s.f [m]).length c') ∧ LM w p B W (N + 1) { s with f := K.mrg s.f [m] } a' (K.tak s.f [m]) w' ∧ w'.cell? ⟨p, 1, none⟩ = some (.pointer (some ⟨P.h, 0, none⟩)) ∧
      Hid (Calls Try.prog 38 #[.pointer (some ⟨P.h, 0, none⟩), .slice a' (K.tak s.f [m]).length c'] w' fun e w2 => e = .returned (.tuple #[]) ∧ LM w p B W (N + 1) { s with f := K.mrg s.f [m], F := HU.push 5 s.F (K.tak s.f [m]) } a' (K.tak s.f [m]) w2)) := by
    refine (Merge_o x.vt [m] a c hr (by simp) hN (fun m' h => by simp at h; rw [h]; exact hm)).mono ?_
    rintro e w' ⟨a', c', rfl, h1, h2, h3, h4⟩
    have x1 := x.view h2 h3 (by omega) (K.ok_mrg _ x.num.ok)
    have hnb : ∀ g off, a' = some ⟨g, off, none⟩ → ¬ B g := fun g off e hB => by have := h4 g off e; have := (x.Bo g hB).2; omega
    refine ⟨a', c', rfl, ⟨⟨_, _, x1, OS.of1 h3 x.Bb⟩, h1, h4⟩, x1.c1, ?_⟩
    refine (x1.pushL c' h1 (by have := K.tak_len s.f [m]; simp at this; omega) hnb).mono ?_
    rintro e w2 ⟨rfl, v', g1, g2⟩
    refine ⟨rfl, ⟨_, _, g1, (OS.of1 h3 x.Bb).trans g2⟩, fun i y hy => ?_, h4⟩
    obtain ⟨b', off, e1, e2, e3⟩ := h1 i y hy
    have hb : w2.heap[b']? = w'.heap[b']? := g2.block b' e2 (hnb b' off e1)
    exact ⟨b', off, e1, Nat.lt_of_lt_of_le e2 g2.size, fun j u hu => by rw [World.cell?_of_block hb]; exact e3 j u hu⟩
  have HL : Hid (SO.learn s m = if K.news s.f m = true then { s with f := K.stp s.f m, F := HU.put 5 s.F m, sn := fun k => if k = m.1 then s.now else s.sn k } else s) := rfl
  have HM : K.mrg s.f [m] = K.stp s.f m := rfl
  rw [HM, tak1] at C1
  clear HM
  cases hnw : K.news s.f m with
  | false =>
    rw [hnw] at C1 HL
    rw [stp_no hnw] at C1
    simp only [Bool.false_eq_true, if_false, List.length_nil] at C1 HL
    rw [HL.out]
    generalize P.q = q at *
    generalize P.h = h at *
    clear x hr HL hnw
    go_enter Try.func36, Try.ntmps36
    go_wp2_with (first
      | (go_at_call 49; refine C1.out.mono ?_; clear C1 c0; rintro e w1 ⟨a', c', rfl, h1, c1, C2⟩; clear h1)
      | (go_at_call 38; refine C2.out.mono ?_; clear C2 c1; rintro e w2 ⟨rfl, h2⟩; have H2 := hidI h2; clear h2))
    go_loopw [6, 21] (fun _ u21 wr => u21 = .int .i64 0 ∧ wr = w2) (fun _ _ _ => 0)
    case atStart => exact ⟨rfl, rfl⟩
    case round =>
      obtain ⟨rfl, rfl⟩ := hrel
      go_wp2_with fail
      refine bodyPost_end (results_none rfl _ _ _) rfl ?_
      exact ⟨rfl, H2.out.sx⟩
  | true =>
    have hg := K.news_good hnw
    rw [hnw] at C1 HL
    simp only [if_true, List.length_singleton] at C1 HL
    rw [HL.out]
    generalize P.q = q at *
    generalize P.h = h at *
    obtain ⟨n, i, st⟩ := m
    obtain ⟨k, rfl⟩ : ∃ k : Nat, n = k := ⟨n.toNat, by have := hg.1; simp only at this; omega⟩
    have hk : k < 7 := by have := hg.2.1; simp only at this; omega
    have hF : HU.push 5 s.F [((k : Int), i, st)] = HU.put 5 s.F ((k : Int), i, st) := rfl
    rw [hF] at C1
    have HS : Hid (∀ a' wr U, LM w p B W (N + 1) { s with f := K.stp s.f ((k : Int), i, st), F := HU.put 5 s.F ((k : Int), i, st) } a' [((k : Int), i, st)] wr → Bl wr U → U.cell? ⟨p, 2, none⟩ = some (.int .i64 s.now) ∧ (∃ u, U.cell? ⟨p, 3 + k, none⟩ = some u) ∧ U.frozen? ⟨p, 3 + k, none⟩ = false ∧ SX w p B W (N + 1) { s with f := K.stp s.f ((k : Int), i, st), F := HU.put 5 s.F ((k : Int), i, st), sn := fun j => if j = (k : Int) then s.now else s.sn j } (U.setCell ⟨p, 3 + k, none⟩ (.int .i64 s.now))) := fun a' wr U h hb => by
      obtain ⟨P', B', h1, h2⟩ := h.ex
      have x1 := h1.grow hb
      refine ⟨x1.c2, ⟨_, x1.cs k hk⟩, x1.fz _, ?_⟩
      obtain ⟨y1, y2⟩ := x1.set (Nat.le_refl _) (3 + k) (.int .i64 s.now) (set_sn P' _ k hk s.now) rfl rfl (x1.num.sn _) rfl rfl rfl
      exact SX.of y1 ((h2.trans (OS.of_bl hb)).trans y2)
    generalize hs1 : ({ s with f := K.stp s.f ((k : Int), i, st), F := HU.put 5 s.F ((k : Int), i, st) } : SO.Sc) = s1 at *
    generalize hs2 : ({ s with f := K.stp s.f ((k : Int), i, st), F := HU.put 5 s.F ((k : Int), i, st), sn := fun j => if j = (k : Int) then s.now else s.sn j } : SO.Sc) = s2 at *
    generalize s.now = t at *
    obtain ⟨fs, hum⟩ := undMe
    clear x hr HL hnw hs1 hs2 hF hg
    go_enter Try.func36, Try.ntmps36
    go_wp2_with (first
      | (go_at_call 49; refine C1.out.mono ?_; clear C1 c0; rintro e w1 ⟨a', c', rfl, h1, c1, C2⟩; clear h1)
      | (go_at_call 38; refine C2.out.mono ?_; clear C2 c1; rintro e w2 ⟨rfl, h2⟩; have H2 := hidI h2; clear h2))
    go_loopw [6, 21] (fun _ u21 wr => (u21 = .int .i64 0 ∧ wr = w2) ∨ (u21 = .int .i64 1 ∧ SX w p B W (N + 1) s2 wr)) (fun _ u21 _ => 1 - (intOf u21).toNat)
    case atStart => exact Or.inl ⟨rfl, rfl⟩
    case round =>
      rcases hrel with ⟨rfl, rfl⟩ | ⟨rfl, hx⟩
      · obtain ⟨b2, off, rfl, hb2, hrg⟩ := H2.out.rs 0 _ rfl
        have HR : Hid (wr.rangeAt b2 off [.int .i64 (k : Int), .int .i64 i, .int .i64 st]) := by
          have : wr.rangeAt b2 (off + 0 * 3) [.int .i64 (k : Int), .int .i64 i, .int .i64 st] := hrg
          rwa [Nat.zero_mul, Nat.add_zero] at this
        obtain ⟨k2, ⟨u, k3⟩, k4, k5⟩ := HS.out _ _ (wr.alloc (.cells #[.int .i64 (k : Int), .int .i64 i, .int .i64 st] 54)).drew H2.out ((Bl.refl wr).alloc _).drew
        have K5 := hidI k5
        clear hrg HS k5
        go_wp2_with (refine wpList_load_mid rfl 54 _ rfl b2 off rfl [.int .i64 (k : Int), .int .i64 i, .int .i64 st] _ HR.out hum rfl infoMe ?_; clear HR)
        go_region
        go_wp2_with fail
        go_roundw
        case rel => exact Or.inr ⟨by go_num, K5.out⟩
        case measure => simp [intOf]
      · have HX := hidI hx
        clear hx HS H2
        go_wp2_with fail
        refine bodyPost_end (results_none rfl _ _ _) rfl ?_
        exact ⟨rfl, HX.out⟩
end Go.Proofs.Ytebmgajijjhinaa
