/- slices.symMergeCmpFunc at records: two stretches beside each other, merged as they stand. -/
import Derived.Test.YtfbjakhanjbaeaaDoorHq4
import Derived.Deep.DeepCutAuto
import Derived.Deep.CutBlock
namespace Go.Proofs.YtfbjakhanjbaeaaDoor
open Go.RowKit Go.Maps Go.Sort Go.Shelf Go.Lib
set_option linter.unusedVariables false
set_option linter.unusedSimpArgs false
set_option linter.unusedSectionVars false
variable {α : Type} [Inhabited α]

/-- the merge's contract, for lists of fewer than N things -/
def SyC (P : Program) (k g : Nat) (cb : Array Value) (enc : α → List Value) (cf : α → α → Int) (blk off cap sz : Nat) (w : World) (N : Nat) : Prop :=
  ∀ (A X Y B : List α), (A ++ (X ++ (Y ++ B))).length = sz → X ≠ [] → Y ≠ [] → SS.Sd (ltOf cf) X → SS.Sd (ltOf cf) Y → X.length + Y.length < N → ∀ (m0 : Nat) (os : Array Obj) (x y z : Int), x = (A.length : Nat) → y = (A.length + X.length : Nat) → z = (A.length + X.length + Y.length : Nat) →
    Calls P 69 #[.slice (some ⟨blk, off, none⟩) sz cap, .int .i64 x, .int .i64 y, .int .i64 z, .func (.func g) #[] cb] (sortWorldK enc k w blk off m0 (A ++ (X ++ (Y ++ B))).toArray os) fun e w' =>
      e = .returned (.tuple #[]) ∧ ∃ q os', w' = sortWorldK enc k w blk off q (A ++ (SS.mrg (ltOf cf) X Y ++ B)).toArray os'

set_option maxHeartbeats 8000000 in
set_option maxRecDepth 8000 in
theorem symM_mid {P : Program} {k : Nat} (L : SoP P k) {enc : α → List Value} (hk : ∀ x, (enc x).length = k) (h1 : ∀ x, ∀ v ∈ enc x, v.oneCell' = true) {w : World} {blk off cap g : Nat} {cb : Array Value} {cf : α → α → Int} {d : Array α} (hH : HoldsK enc k w blk off d) (hblk : blk < w.heap.size) (hz : d.size ≤ 1000000)
    (eg : ∀ args w, (callFunc g args).run P w = .ok (.enter g args) w) (hcmp : CmpLays P g cb enc k cf blk off d.size w) (hw : SS.Wk (ltOf cf)) (m0 : Nat) (os : Array Obj)
    (A X Y B : List α) (hs : (A ++ (X ++ (Y ++ B))).length = d.size) (hX : 1 < X.length) (hY : 1 < Y.length) (sX : SS.Sd (ltOf cf) X) (sY : SS.Sd (ltOf cf) Y) (IH : SyC P k g cb enc cf blk off cap d.size w (X.length + Y.length)) {a m b : Nat} (ha : a = A.length) (hm : m = A.length + X.length) (hb : b = A.length + X.length + Y.length) :
    Calls P 69 #[.slice (some ⟨blk, off, none⟩) d.size cap, .int .i64 a, .int .i64 m, .int .i64 b, .func (.func g) #[] cb] (sortWorldK enc k w blk off m0 (A ++ (X ++ (Y ++ B))).toArray os) fun e w' =>
      e = .returned (.tuple #[]) ∧ ∃ q os', w' = sortWorldK enc k w blk off q (A ++ (SS.mrg (ltOf cf) X Y ++ B)).toArray os' := by
  obtain ⟨mid, hmid⟩ : ∃ mid, mid = (a + b) / 2 := ⟨_, rfl⟩
  obtain ⟨n, hn⟩ : ∃ n, n = mid + m := ⟨_, rfl⟩
  obtain ⟨lo, hlo⟩ : ∃ lo, lo = max A.length (n - (A.length + X.length + Y.length)) := ⟨_, rfl⟩
  obtain ⟨hi, hhi⟩ : ∃ hi, hi = min (A.length + X.length) (n - (A.length + X.length)) := ⟨_, rfl⟩
  have hmono := SS.m3_mono hw A X Y B sX sY n lo hi (by omega) (by omega) (by omega) (by omega)
  have hend := fun s hbs => SS.m3_end hw A X Y B sX sY n lo hi s hlo hhi (by omega) (by omega) hbs
  have hbs : SS.Bs (fun c => !ltOf cf (A ++ (X ++ (Y ++ B))).toArray[n - 1 - c]! (A ++ (X ++ (Y ++ B))).toArray[c]!) lo hi lo hi := SS.Bs.start (by omega)
  have hbd : b ≤ d.size := by rw [← hs]; simp; omega
  have hlo2 : (mid < m → lo = n - b ∧ hi = mid) ∧ (¬ mid < m → lo = a ∧ hi = m) := ⟨fun _ => by omega, fun _ => by omega⟩
  -- the end of the search: the two calls
  have hcut : ∀ s, SS.Bs (fun c => !ltOf cf (A ++ (X ++ (Y ++ B))).toArray[n - 1 - c]! (A ++ (X ++ (Y ++ B))).toArray[c]!) lo hi s s → ∃ X1 X2 Y1 Y2 : List α, X = X1 ++ X2 ∧ Y = Y1 ++ Y2 ∧ s = A.length + X1.length ∧ n - s = A.length + X.length + Y1.length ∧ s ≤ n ∧ mid = A.length + X1.length + Y1.length ∧
      SS.mrg (ltOf cf) X Y = SS.mrg (ltOf cf) X1 Y1 ++ SS.mrg (ltOf cf) X2 Y2 ∧ X1.length + Y1.length < X.length + Y.length ∧ X2.length + Y2.length < X.length + Y.length := fun s hs' => by
    have q1 := hs'.a
    have q2 := hs'.c
    refine ⟨X.take (s - A.length), X.drop (s - A.length), Y.take (n - s - (A.length + X.length)), Y.drop (n - s - (A.length + X.length)), (List.take_append_drop _ _).symm, (List.take_append_drop _ _).symm, ?_, ?_, ?_, ?_, hend s hs', ?_, ?_⟩
    all_goals (try simp only [List.length_take, List.length_drop])
    all_goals omega
  have HROT : Hid (∀ (A X Y B : List α), (A ++ (X ++ (Y ++ B))).length = d.size → X ≠ [] → Y ≠ [] → ∀ (m0 : Nat) (os : Array Obj) (x y z : Int), x = (A.length : Nat) → y = (A.length + X.length : Nat) → z = (A.length + X.length + Y.length : Nat) →
      Calls P 74 #[.slice (some ⟨blk, off, none⟩) d.size cap, .int .i64 x, .int .i64 y, .int .i64 z, .func (.func g) #[] cb] (sortWorldK enc k w blk off m0 (A ++ (X ++ (Y ++ B))).toArray os) fun e w' =>
        e = .returned (.tuple #[]) ∧ ∃ q, w' = sortWorldK enc k w blk off q (A ++ (Y ++ (X ++ B))).toArray os) := fun A X Y B h2 h3 h4 m0 os x y z hx hy hz' => by
    rw [hx, hy, hz']
    exact rotate_c L hk h1 hH hblk hz m0 os _ A X Y B h2 h3 h4 rfl rfl rfl
  obtain ⟨D, hD⟩ : ∃ D, D = (A ++ (X ++ (Y ++ B))).toArray := ⟨_, rfl⟩
  have hds : D.size = d.size := by rw [hD, ← hs]; rfl
  have HD := hidI hD
  obtain ⟨D3, hD3⟩ : ∃ D3, D3 = (A ++ (SS.mrg (ltOf cf) X Y ++ B)).toArray := ⟨_, rfl⟩
  rw [← hD3]
  have HD3 := hidI hD3
  clear hD3
  have HSZ := hidI hs
  rw [← hD] at hbs hmono hcut ⊢
  have HCUT := hidI hcut
  have HSS := hidI (And.intro sX sY)
  have HIH : Hid (SyC P k g cb enc cf blk off cap d.size w (X.length + Y.length)) := IH
  have f1 : a + 1 < m := by omega
  have f2 : m + 1 < b := by omega
  have f3 : mid < b := by omega
  have f4 : a < mid := by omega
  have HLO := hidI hlo2
  have f5 : lo ≤ hi ∧ hi ≤ m ∧ a ≤ lo ∧ m + hi ≤ n ∧ n ≤ lo + b := by omega
  have HF := hidI (And.intro ha (And.intro hm (And.intro hb hmid)))
  have g1 : ((a : Int) + (b : Int)) / 2 = (mid : Int) := by omega
  have g2 : (mid : Int) + (m : Int) = (n : Int) := by omega
  have HN := hidI hn
  clear hD hend hlo hhi sX sY hX hY hs IH hcut hlo2 ha hm hb hmid hn
  have CRs : Hid (∀ q os x y, x < d.size → y < d.size → CR P g cb enc k cf blk off (sortWorldK enc k w blk off q D os) D x y) := fun q os x y hx hy => cr_of hk hH hblk hds hcmp q os hx hy
  have HMO := hidI hmono
  have HBS0 := hidI hbs
  have HCLS : Hid (∀ m D os n' os', grow ((sortWorldK enc k w blk off m D os).drewN n') os' = sortWorldK enc k w blk off (m + n') D (os ++ os')) := fun m D os n' os' => sortWorldK_grown_c enc k w blk off m n' D os os'
  obtain ⟨W, hW⟩ : ∃ W, W = sortWorldK enc k w blk off m0 D os := ⟨_, rfl⟩
  rw [← hW]
  have HW : Hid (W = sortWorldK enc k w blk off m0 D os) := hW
  have mixed := L.mixed; have t3 := L.t3; have a3 := L.a3; have z3 := L.z3; have v3 := L.v3; have t4 := L.t4; have a4 := L.a4; have z4 := L.z4; have v4 := L.v4; have t0 := L.t0; have a0 := L.a0; have z0 := L.z0; have v0 := L.v0
  have t22 := L.t22; have a22 := L.a22; have z22 := L.z22; have v22 := L.v22; have t75 := L.t75; have a75 := L.a75; have z75 := L.z75; have v75 := L.v75; have t78 := L.t78; have a78 := L.a78; have z78 := L.z78; have v78 := L.v78; have aE := L.aE; have zE := L.zE
  have u22 := run_underlying L.t22
  clear hk h1 hH hcmp hmono hbs hW hds hw
  have c0 : (((m : Int) - (a : Int)) == 1) = false := by simp; omega
  have c1 : (((b : Int) - (m : Int)) == 1) = false := by simp; omega
  have eg69 : ∀ args w, (callFunc 69 args).run P w = .ok (.enter 69 args) w := enters_of L.Fsy (by kernel_rfl) rfl
  have eg74 : ∀ args w, (callFunc 74 args).run P w = .ok (.enter 74 args) w := enters_of L.Fro (by kernel_rfl) rfl
  go_enter L.Fsy, Tryd.ntmps69
  go_upto_if 140 with fail
  go_cut [20, 21] (fun s20 s21 wx => s20 = .int .i64 lo ∧ s21 = .int .i64 hi ∧ wx = W)
  case first =>
    by_cases hmm : mid < m
    · obtain ⟨r1, r2⟩ := HLO.out.1 hmm
      have hmz : (m : Int) > (mid : Int) := by omega
      have hz2 : (n : Int) - (b : Int) = (lo : Int) := by have := HN.out; have := HF.out.2.2.2; omega
      have HR2 := hidI r2
      clear r1 r2
      go_wp2_with fail
      go_meet
      exact ⟨by first | rfl | (rw [hz2]), by rw [HR2.out], rfl⟩
    · obtain ⟨r1, r2⟩ := HLO.out.2 hmm
      have hmz : ¬ (m : Int) > (mid : Int) := by omega
      have HR2 := hidI (And.intro r1 r2)
      clear r1 r2
      go_wp2_with fail
      go_meet
      exact ⟨by rw [HR2.out.1], by rw [HR2.out.2], rfl⟩
  case rest =>
  as_aux_lemma =>
  obtain ⟨rfl, rfl, rfl⟩ := hcut
  go_wp2_with fail
  go_loopw [20, 21, 23] (fun u v _ wr => ∃ (i j q : Nat) (os' : Array Obj), u = .int .i64 i ∧ v = .int .i64 j ∧ SS.Bs (fun c => !ltOf cf D[n - 1 - c]! D[c]!) lo hi i j ∧ wr = sortWorldK enc k w blk off q D os') (fun u v _ _ => (intOf v).toNat - (intOf u).toNat)
  case atStart => exact ⟨lo, hi, m0, os, rfl, rfl, HBS0.out, HW.out⟩
  case round =>
    as_aux_lemma =>
    obtain ⟨i, j, q, os', rfl, rfl, hbs, rfl⟩ := hrel
    have p1 := hbs.a
    have p2 := hbs.b
    have p3 := hbs.c
    have HB := hidI hbs
    clear hbs HBS0 HW
    by_cases hlt : i < j
    · obtain ⟨h, hh⟩ : ∃ h, h = (i + j) / 2 := ⟨_, rfl⟩
      have hmid : ((i : Int) + (j : Int)) / 2 = (h : Int) := by omega
      have q1 : i ≤ h := by omega
      have q2 : h < j := by omega
      obtain ⟨z, hz'⟩ : ∃ z, z = n - 1 - h := ⟨_, rfl⟩
      have q3 : (h : Int) < (d.size : Int) := by omega
      have q4 : (z : Int) < (d.size : Int) := by omega
      have q5 : (n : Int) - 1 - (h : Int) = (z : Int) := by omega
      have q6 : IntKind.i64.wrap ((n : Int) - 1 - (h : Int)) = (z : Int) := by rw [q5, IntKind.wrap_i64]; omega
      have q7 : IntKind.i64.wrap (z : Int) = (z : Int) := by rw [IntKind.wrap_i64]; omega
      obtain ⟨lx, ly, hcg⟩ := CRs.out q os' z h (by omega) (by omega)
      have cls := HCLS.out q D os'
      have HH := hidI hh
      have HZ := hidI hz'
      clear hh hz'
      obtain ⟨X1, hX1⟩ : ∃ X1, X1 = D[z]! := ⟨_, rfl⟩
      obtain ⟨X2, hX2⟩ : ∃ X2, X2 = D[h]! := ⟨_, rfl⟩
      rw [← hX1, ← hX2] at hcg
      rw [← hX1] at lx
      rw [← hX2] at ly
      have HX := hidI (And.intro hX1 hX2)
      have CLS := hidI cls
      clear cls hX1 hX2
      generalize hwq : sortWorldK enc k w blk off q D os' = wq at lx ly hcg CLS ⊢
      clear hwq
      by_cases hlv : cf X1 X2 < 0
      · have hB : decide (cf X1 X2 < 0) = true := decide_eq_true hlv
        have HR : Hid (SS.Bs (fun c => !ltOf cf D[n - 1 - c]! D[c]!) lo hi i h) := by
          show SS.Bs _ _ _ _ _
          rw [HH.out]; exact HB.out.dn (fun c c' a1 a2 a3 => HMO.out c c' a1 a2 a3) hlt (by rw [← HH.out, ← HZ.out, ← HX.out.1, ← HX.out.2, ltOf_yes hlv]; rfl)
        go_wp2_with fail
        go_quiet_grown (first | (go_at_fn g; refine Calls.grown_of (hcg _ _)))
        all_goals go_wp2_with fail
        all_goals first
          | (exfalso; omega)
          | (exfalso; simp_all; done)
          | (go_roundw; (case rel => exact ⟨i, h, _, _, rfl, rfl, HR.out, CLS.out _ _⟩); (case measure => simp [intOf]; omega))
          | exact ⟨⟨i, h, _, _, rfl, rfl, HR.out, CLS.out _ _⟩, by simp [intOf]; omega⟩
      · have hB : decide (cf X1 X2 < 0) = false := decide_eq_false (by omega)
        have HR : Hid (SS.Bs (fun c => !ltOf cf D[n - 1 - c]! D[c]!) lo hi (h + 1) j) := by
          show SS.Bs _ _ _ _ _
          rw [HH.out]; exact HB.out.up (fun c c' a1 a2 a3 => HMO.out c c' a1 a2 a3) hlt (by rw [← HH.out, ← HZ.out, ← HX.out.1, ← HX.out.2, ltOf_no (by omega)]; rfl)
        go_wp2_with fail
        go_quiet_grown (first | (go_at_fn g; refine Calls.grown_of (hcg _ _)))
        all_goals go_wp2_with fail
        all_goals first
          | (exfalso; omega)
          | (exfalso; simp_all; done)
          | (go_roundw; (case rel => exact ⟨h + 1, j, _, _, by first | rfl | go_num, rfl, HR.out, CLS.out _ _⟩); (case measure => simp [intOf]; omega))
          | exact ⟨⟨h + 1, j, _, _, by first | rfl | go_num, rfl, HR.out, CLS.out _ _⟩, by simp [intOf]; omega⟩
    · obtain rfl : i = j := by omega
      obtain ⟨X1, X2, Y1, Y2, eX, eY, es, en, hsn, em, emr, l1, l2⟩ := HCUT.out i HB.out
      obtain ⟨e, he⟩ : ∃ e, e = n - i := ⟨_, rfl⟩
      have g3 : (n : Int) - (i : Int) = (e : Int) := by omega
      obtain ⟨hfa, hfm, hfb, hfmid⟩ := HF.out
      -- behind the rotation
      obtain ⟨D1, hD1⟩ : ∃ D1, D1 = (A ++ (X1 ++ (Y1 ++ (X2 ++ (Y2 ++ B))))).toArray := ⟨_, rfl⟩
      obtain ⟨D2, hD2⟩ : ∃ D2, D2 = (A ++ (SS.mrg (ltOf cf) X1 Y1 ++ (X2 ++ (Y2 ++ B)))).toArray := ⟨_, rfl⟩
      have hD3 := HD3.out
      have hsz := HSZ.out
      have hDD := HD.out
      rw [eX, eY] at hDD hsz
      have sX := HSS.out.1
      have sY := HSS.out.2
      rw [eX] at sX
      rw [eY] at sY
      have pX := List.pairwise_append.1 sX
      have pY := List.pairwise_append.1 sY
      rw [emr] at hD3
      have hXl : X.length = X1.length + X2.length := by rw [eX, List.length_append]
      have hYl : Y.length = Y1.length + Y2.length := by rw [eY, List.length_append]
      have R1 : Hid (¬ (i < m ∧ m < e) → D = D1) := fun hn => by
        rw [hDD, hD1]
        rcases Nat.lt_or_ge i m with h5 | h5
        · have : Y1 = [] := List.eq_nil_of_length_eq_zero (by omega)
          subst this; simp
        · have : X2 = [] := List.eq_nil_of_length_eq_zero (by omega)
          subst this; simp
      have R2 : Hid (i < m → m < e → ∀ q, Calls P 74 #[.slice (some ⟨blk, off, none⟩) d.size cap, .int .i64 i, .int .i64 m, .int .i64 e, .func (.func g) #[] cb] (sortWorldK enc k w blk off q D os') fun e w' =>
          e = .returned (.tuple #[]) ∧ ∃ q, w' = sortWorldK enc k w blk off q D1 os') := fun h5 h6 q => by
        have := HROT.out (A ++ X1) X2 Y1 (Y2 ++ B) (by rw [← hsz]; simp) (fun h => by have := List.length_eq_zero_iff.2 h; omega) (fun h => by have := List.length_eq_zero_iff.2 h; omega) q os' i m e (by simp; omega) (by simp; omega) (by simp; omega)
        have e1 : (A ++ X1) ++ (X2 ++ (Y1 ++ (Y2 ++ B))) = A ++ (X1 ++ X2 ++ (Y1 ++ Y2 ++ B)) := by simp
        have e2 : (A ++ X1) ++ (Y1 ++ (X2 ++ (Y2 ++ B))) = A ++ (X1 ++ (Y1 ++ (X2 ++ (Y2 ++ B)))) := by simp
        rw [e1, e2, ← hD1, ← hDD] at this
        exact this
      have R3 : Hid (¬ (a < i ∧ i < mid) → D1 = D2) := fun hn => by
        rw [hD1, hD2]
        rcases Nat.lt_or_ge a i with h5 | h5
        · have : Y1 = [] := List.eq_nil_of_length_eq_zero (by omega)
          subst this; simp
        · have : X1 = [] := List.eq_nil_of_length_eq_zero (by omega)
          subst this; simp
      have R4 : Hid (a < i → i < mid → ∀ q os', Calls P 69 #[.slice (some ⟨blk, off, none⟩) d.size cap, .int .i64 a, .int .i64 i, .int .i64 mid, .func (.func g) #[] cb] (sortWorldK enc k w blk off q D1 os') fun e w' =>
          e = .returned (.tuple #[]) ∧ ∃ q os', w' = sortWorldK enc k w blk off q D2 os') := fun h5 h6 q os' => by
        have := HIH.out A X1 Y1 (X2 ++ (Y2 ++ B)) (by rw [← hsz]; simp; omega) (fun h => by have := List.length_eq_zero_iff.2 h; omega) (fun h => by have := List.length_eq_zero_iff.2 h; omega) pX.1 pY.1 l1 q os' a i mid (by omega) (by omega) (by omega)
        rw [← hD1, ← hD2] at this
        exact this
      have R5 : Hid (¬ (mid < e ∧ e < b) → D2 = D3) := fun hn => by
        rw [hD2, hD3]
        rcases Nat.lt_or_ge mid e with h5 | h5
        · have : Y2 = [] := List.eq_nil_of_length_eq_zero (by omega)
          subst this; simp
        · have : X2 = [] := List.eq_nil_of_length_eq_zero (by omega)
          subst this; simp
      have R6 : Hid (mid < e → e < b → ∀ q os', Calls P 69 #[.slice (some ⟨blk, off, none⟩) d.size cap, .int .i64 mid, .int .i64 e, .int .i64 b, .func (.func g) #[] cb] (sortWorldK enc k w blk off q D2 os') fun e w' =>
          e = .returned (.tuple #[]) ∧ ∃ q os', w' = sortWorldK enc k w blk off q D3 os') := fun h5 h6 q os' => by
        have hml : (SS.mrg (ltOf cf) X1 Y1).length = X1.length + Y1.length := SS.mrg_len X1 Y1
        have := HIH.out (A ++ SS.mrg (ltOf cf) X1 Y1) X2 Y2 B (by rw [← hsz]; simp [hml]; omega) (fun h => by have := List.length_eq_zero_iff.2 h; omega) (fun h => by have := List.length_eq_zero_iff.2 h; omega) pX.2.1 pY.2.1 l2 q os' mid e b (by simp [hml]; omega) (by simp [hml]; omega) (by simp [hml]; omega)
        have e1 : (A ++ SS.mrg (ltOf cf) X1 Y1) ++ (X2 ++ (Y2 ++ B)) = A ++ (SS.mrg (ltOf cf) X1 Y1 ++ (X2 ++ (Y2 ++ B))) := by simp
        have e2 : (A ++ SS.mrg (ltOf cf) X1 Y1) ++ (SS.mrg (ltOf cf) X2 Y2 ++ B) = A ++ (SS.mrg (ltOf cf) X1 Y1 ++ SS.mrg (ltOf cf) X2 Y2 ++ B) := by simp
        rw [e1, e2, ← hD2, ← hD3] at this
        exact this
      clear HIH HROT HSS HSZ HD HD3 HCUT HLO HMO CRs HCLS HB pX pY sX sY hDD hsz hD1 hD2 hD3 emr eX eY es en em l1 l2 hXl hYl he hfa hfm hfb hfmid HF HN hsn
      generalize hwq : sortWorldK enc k w blk off q D os' = wq
      have HWQ := hidI hwq
      clear hwq
      obtain ⟨B1, hB1⟩ : ∃ B1 : Bool, B1 = decide (i < m ∧ m < e) := ⟨_, rfl⟩
      have HB1 := hidI hB1
      clear hB1
      go_upto_region 39 with fail
      go_cut [185] (fun s1 wx => s1 = .bool B1 ∧ wx = wq)
      case first =>
        rcases Nat.lt_or_ge i m with h6 | h6
        · have b1 : (i : Int) < (m : Int) := by omega
          rcases Nat.lt_or_ge m e with h7 | h7
          · have b2 : (m : Int) < (e : Int) := by omega
            go_wp2_with fail
            go_meet
            exact ⟨by rw [HB1.out]; simp; omega, rfl⟩
          · have b2 : ¬ (m : Int) < (e : Int) := by omega
            go_wp2_with fail
            go_meet
            exact ⟨by rw [HB1.out]; simp; omega, rfl⟩
        · have b1 : ¬ (i : Int) < (m : Int) := by omega
          go_wp2_with fail
          go_meet
          exact ⟨by rw [HB1.out]; simp; omega, rfl⟩
      case rest =>
      as_aux_lemma =>
      obtain ⟨rfl, rfl⟩ := hcut
      go_upto_if 185 with fail
      go_cut [24] (fun s24 wx => s24 = .int .i64 e ∧ ∃ q, wx = sortWorldK enc k w blk off q D1 os')
      case first =>
        cases hB : B1 with
        | true =>
          obtain ⟨h6, h7⟩ := of_decide_eq_true (HB1.out.symm.trans hB)
          have C1 := hidI (R2.out h6 h7 q)
          rw [HWQ.out] at C1
          clear hB h6 h7
          go_wp2_with (first | go_skip | (go_at_fn 74; refine C1.out.mono ?_; rintro e' w' ⟨rfl, q2, rfl⟩; clear C1))
          go_meet
          exact ⟨rfl, q2, rfl⟩
        | false =>
          have HR := hidI (R1.out (of_decide_eq_false (HB1.out.symm.trans hB)))
          clear hB
          go_wp2_with fail
          go_meet
          exact ⟨rfl, q, by rw [← HR.out]; exact HWQ.out.symm⟩
      case rest =>
      as_aux_lemma =>
      obtain ⟨rfl, q2, hcut⟩ := hcut
      subst hcut
      clear HWQ R1 R2 HB1
      generalize hwq : sortWorldK enc k w blk off q2 D1 os' = wq
      have HWQ := hidI hwq
      clear hwq
      obtain ⟨B1, hB1⟩ : ∃ B1 : Bool, B1 = decide (a < i ∧ i < mid) := ⟨_, rfl⟩
      have HB1 := hidI hB1
      clear hB1
      go_upto_region 41 with fail
      go_cut [199] (fun s1 wx => s1 = .bool B1 ∧ wx = wq)
      case first =>
        rcases Nat.lt_or_ge a i with h6 | h6
        · have b1 : (a : Int) < (i : Int) := by omega
          rcases Nat.lt_or_ge i mid with h7 | h7
          · have b2 : (i : Int) < (mid : Int) := by omega
            go_wp2_with fail
            go_meet
            exact ⟨by rw [HB1.out]; simp; omega, rfl⟩
          · have b2 : ¬ (i : Int) < (mid : Int) := by omega
            go_wp2_with fail
            go_meet
            exact ⟨by rw [HB1.out]; simp; omega, rfl⟩
        · have b1 : ¬ (a : Int) < (i : Int) := by omega
          go_wp2_with fail
          go_meet
          exact ⟨by rw [HB1.out]; simp; omega, rfl⟩
      case rest =>
      as_aux_lemma =>
      obtain ⟨rfl, rfl⟩ := hcut
      go_upto_if 199 with fail
      go_cut [24] (fun s24 wx => s24 = .int .i64 e ∧ ∃ q os', wx = sortWorldK enc k w blk off q D2 os')
      case first =>
        cases hB : B1 with
        | true =>
          obtain ⟨h6, h7⟩ := of_decide_eq_true (HB1.out.symm.trans hB)
          have C1 := hidI (R4.out h6 h7 q2 os')
          rw [HWQ.out] at C1
          clear hB h6 h7
          go_wp2_with (first | go_skip | (go_at_fn 69; refine C1.out.mono ?_; rintro e' w' ⟨rfl, q3, os3, rfl⟩; clear C1))
          go_meet
          exact ⟨rfl, q3, os3, rfl⟩
        | false =>
          have HR := hidI (R3.out (of_decide_eq_false (HB1.out.symm.trans hB)))
          clear hB
          go_wp2_with fail
          go_meet
          exact ⟨rfl, q2, os', by rw [← HR.out]; exact HWQ.out.symm⟩
      case rest =>
      as_aux_lemma =>
      obtain ⟨rfl, q3, os3, hcut⟩ := hcut
      subst hcut
      clear HWQ R3 R4 HB1
      generalize hwq : sortWorldK enc k w blk off q3 D2 os3 = wq
      have HWQ := hidI hwq
      clear hwq
      obtain ⟨B1, hB1⟩ : ∃ B1 : Bool, B1 = decide (mid < e ∧ e < b) := ⟨_, rfl⟩
      have HB1 := hidI hB1
      clear hB1
      go_upto_region 43 with fail
      go_cut [213] (fun s1 wx => s1 = .bool B1 ∧ wx = wq)
      case first =>
        rcases Nat.lt_or_ge mid e with h6 | h6
        · have b1 : (mid : Int) < (e : Int) := by omega
          rcases Nat.lt_or_ge e b with h7 | h7
          · have b2 : (e : Int) < (b : Int) := by omega
            go_wp2_with fail
            go_meet
            exact ⟨by rw [HB1.out]; simp; omega, rfl⟩
          · have b2 : ¬ (e : Int) < (b : Int) := by omega
            go_wp2_with fail
            go_meet
            exact ⟨by rw [HB1.out]; simp; omega, rfl⟩
        · have b1 : ¬ (mid : Int) < (e : Int) := by omega
          go_wp2_with fail
          go_meet
          exact ⟨by rw [HB1.out]; simp; omega, rfl⟩
      case rest =>
      as_aux_lemma =>
      obtain ⟨rfl, rfl⟩ := hcut
      cases hB : B1 with
      | true =>
        have h5 := of_decide_eq_true (HB1.out.symm.trans hB)
        obtain ⟨h6, h7⟩ := h5
        have C1 := hidI (R6.out h6 h7 q3 os3)
        rw [HWQ.out] at C1
        clear hB h6 h7
        go_wp2_with (first | go_skip | (go_at_fn 69; refine C1.out.mono ?_; rintro e' w' ⟨rfl, q4, os4, rfl⟩; clear C1))
        first | refine bodyPost_end (results_none rfl _ _ _) rfl ?_ | refine bodyPost_ret (results_none rfl _ _ _) rfl ?_
        exact ⟨rfl, q4, os4, rfl⟩
      | false =>
        have HR := hidI (R5.out (of_decide_eq_false (HB1.out.symm.trans hB)))
        clear hB
        go_wp2_with fail
        first | refine bodyPost_end (results_none rfl _ _ _) rfl ?_ | refine bodyPost_ret (results_none rfl _ _ _) rfl ?_
        exact ⟨rfl, q3, os3, by rw [← HR.out]; exact HWQ.out.symm⟩

theorem symM_c {P : Program} {k : Nat} (L : SoP P k) {enc : α → List Value} (hk : ∀ x, (enc x).length = k) (h1 : ∀ x, ∀ v ∈ enc x, v.oneCell' = true) {w : World} {blk off cap g : Nat} {cb : Array Value} {cf : α → α → Int} {d : Array α} (hH : HoldsK enc k w blk off d) (hblk : blk < w.heap.size) (hz : d.size ≤ 1000000)
    (eg : ∀ args w, (callFunc g args).run P w = .ok (.enter g args) w) (hcmp : CmpLays P g cb enc k cf blk off d.size w) (hw : SS.Wk (ltOf cf)) : ∀ N, SyC P k g cb enc cf blk off cap d.size w N := by
  intro N
  induction N with
  | zero => intro A X Y B h2 h3 h4 h5 h6 h7; omega
  | succ N ih =>
    intro A X Y B hs hX hY sX sY hlt m0 os x y z hx hy hz'
    subst hx; subst hy; subst hz'
    have hlX : 0 < X.length := List.length_pos_iff.2 hX
    have hlY : 0 < Y.length := List.length_pos_iff.2 hY
    by_cases h2 : X.length = 1
    · obtain ⟨u, rfl⟩ := List.length_eq_one_iff.1 h2
      exact symM_one L hk h1 hH hblk hz eg hcmp hw m0 os A u Y B hs hY sY rfl rfl rfl
    · by_cases h3 : Y.length = 1
      · obtain ⟨u, rfl⟩ := List.length_eq_one_iff.1 h3
        exact symM_last L hk h1 hH hblk hz eg hcmp hw m0 os A X u B hs (by omega) sX rfl rfl rfl
      · exact symM_mid L hk h1 hH hblk hz eg hcmp hw m0 os A X Y B hs (by omega) (by omega) sX sY (fun A' X' Y' B' a1 a2 a3 a4 a5 a6 => ih A' X' Y' B' a1 a2 a3 a4 a5 (by omega)) rfl rfl rfl
end Go.Proofs.YtfbjakhanjbaeaaDoor
