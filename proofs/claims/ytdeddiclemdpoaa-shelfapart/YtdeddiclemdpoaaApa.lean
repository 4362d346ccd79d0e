/- The walk of the law ShelfApart. -/
import Derived.Test.YtdeddiclemdpoaaH8
namespace Go.Proofs.Ytdeddiclemdpoaa
open Go.RowKit
set_option linter.unusedVariables false

/-- a shelf of eight slots, on or off, behind at most N acts, nothing armed, whose slot k has the text t, sure -/
def Kp (o : Bool) (w : World) (b c k : Nat) (t : List UInt8) (N : Nat) (W : World) : Prop :=
  ∃ (d f : Nat) (sl : List H.Sl), d ≤ N ∧ f ≤ N ∧ Ss 8 sl ∧ sl[k]? = some ⟨t, t, false⟩ ∧ SW w b c ⟨o, 0, d, f, sl⟩ W
theorem Kp.mono {o : Bool} {w W : World} {b c k N M : Nat} {t : List UInt8} (h : Kp o w b c k t N W) (hN : N ≤ M) : Kp o w b c k t M W := by
  obtain ⟨d, f, sl, h1, h2, h3⟩ := h
  exact ⟨d, f, sl, by omega, by omega, h3⟩
theorem Kp.o {o : Bool} {w W : World} {b c k N : Nat} {t : List UInt8} (h : Kp o w b c k t N W) : Off2 b c w W := by
  obtain ⟨d, f, sl, h1, h2, h3, h4, h5⟩ := h
  exact h5.o
theorem Kp.step {o : Bool} {w W W' : World} {b c k N : Nat} {t : List UInt8} (h : Kp o w b c k t N W) (hb : Below W.heap.size W W') : Kp o w b c k t N W' := by
  obtain ⟨d, f, sl, h1, h2, h3, h4, h5⟩ := h
  exact ⟨d, f, sl, h1, h2, h3, h4, h5.step hb⟩
theorem Kp.base {o : Bool} {w W : World} {b c k N : Nat} {t : List UInt8} (h : Kp o w b c k t N W) : Kp o W b c k t N W := by
  obtain ⟨d, f, sl, h1, h2, h3, h4, h5⟩ := h
  exact ⟨d, f, sl, h1, h2, h3, h4, h5.base⟩
theorem Kp.rebase {o : Bool} {w W W' : World} {b c k N : Nat} {t : List UInt8} (h : Off2 b c w W) (h' : Kp o W b c k t N W') : Kp o w b c k t N W' := by
  obtain ⟨d, f, sl, h1, h2, h3, h4, h5⟩ := h'
  exact ⟨d, f, sl, h1, h2, h3, h4, ⟨h5.hb, h5.hc, h5.ne, h.trans h5.o⟩⟩
theorem Kp.lt {o : Bool} {w W : World} {b c k N : Nat} {t : List UInt8} (h : Kp o w b c k t N W) : b < W.heap.size ∧ c < W.heap.size := by
  obtain ⟨d, f, sl, h1, h2, h3, h4, h5⟩ := h
  exact ⟨h5.ltb, h5.ltc⟩
theorem Kp.write {w W : World} {b c k N : Nat} {t : List UInt8} (h : Kp false w b c k t N W) (hN : N ≤ 1000) (i : Nat) (hi : i < 8) (hk : i ≠ k) (u : List UInt8) (hu : u.length ≤ maxLen) :
    Calls Try.prog 11 #[.pointer (some ⟨b, 0, none⟩), .int .i64 (i : Int), .string (M.bs u)] W fun e w' => (∃ x, e = .returned (.int .i64 x)) ∧ Kp false w b c k t (N + 1) w' := by
  obtain ⟨d, f, sl, h1, h2, h3, h4, h5⟩ := h
  refine (Write_0 h5 h3 (by omega) i hi (by omega) (by omega) u hu).mono ?_
  rintro e w' ⟨h6, d', sl', h7, h8, h9, h10⟩
  exact ⟨h6, d', f, sl', by omega, by omega, h8, by rw [h9 k (by omega)]; exact h4, h10⟩
theorem Kp.sync {w W : World} {b c k N : Nat} {t : List UInt8} (h : Kp false w b c k t N W) (hN : N ≤ 1000) :
    Calls Try.prog 15 #[.pointer (some ⟨b, 0, none⟩)] W fun e w' => e = .returned (.int .i64 0) ∧ Kp false w b c k t (N + 1) w' := by
  obtain ⟨d, f, sl, h1, h2, h3, h4, h5⟩ := h
  refine (Sync_at h5 rfl (h3.sm (by omega) _ _ _ _ (by omega) (by omega) (by omega)) (by show (0 : Nat) ≠ 1; omega)).mono ?_
  rintro e w' ⟨rfl, h6⟩
  exact ⟨rfl, d + 1, f, _, by omega, by omega, h3.sync, syncL_at _ _ _ h4, h6⟩
theorem Kp.off {w W : World} {b c k N : Nat} {t : List UInt8} (h : Kp false w b c k t N W) (hN : N ≤ 1000) :
    Calls Try.prog 17 #[.pointer (some ⟨b, 0, none⟩)] W fun e w' => e = .returned (.tuple #[]) ∧ Kp true w b c k t (N + 1) w' := by
  obtain ⟨d, f, sl, h1, h2, h3, h4, h5⟩ := h
  refine (Off_at h5 (by show f ≤ 1000000; omega)).mono ?_
  rintro e w' ⟨rfl, h6⟩
  exact ⟨rfl, d, f + 1, sl, by omega, by omega, h3, h4, h6⟩
theorem Kp.on {w W : World} {b c k N : Nat} {t : List UInt8} (h : Kp true w b c k t N W) (hN : N ≤ 1000) (F : List Int) (a : Option Addr) (cap : Nat) (hF : FT w b c a F) (hl : F.length ≤ 9223372036854775807) (hb : ∀ x ∈ F, -9223372036854775808 ≤ x ∧ x ≤ 9223372036854775807) :
    Calls Try.prog 19 #[.pointer (some ⟨b, 0, none⟩), .slice a F.length cap] W fun e w' => e = .returned (.tuple #[]) ∧ Kp false w b c k t N w' := by
  obtain ⟨d, f, sl, h1, h2, h3, h4, h5⟩ := h
  refine (On_at h5 rfl (h3.sm (by omega) _ _ _ _ (by omega) (by omega) (by omega)) F a cap hF hl hb).mono ?_
  rintro e w' ⟨rfl, h6⟩
  refine ⟨rfl, d, f, _, h1, h2, h3.on _, ?_, h6⟩
  rw [back_at _ _ _ _ h4]; rfl
theorem Kp.read {w W : World} {b c k N : Nat} {t : List UInt8} (h : Kp false w b c k t N W) :
    Calls Try.prog 13 #[.pointer (some ⟨b, 0, none⟩), .int .i64 (k : Int)] W fun e w' => e = .returned (.tuple #[.string (M.bs t), .int .i64 0]) ∧ Kp false w b c k t N w' := by
  obtain ⟨d, f, sl, h1, h2, h3, h4, h5⟩ := h
  refine (Read_at h5 h4 (by show sl.length ≤ 128; rw [h3.n]; omega) rfl).mono ?_
  rintro e w' ⟨rfl, n, rfl⟩
  exact ⟨rfl, d, f, sl, h1, h2, h3, h4, h5.drewN n⟩
theorem Kp.begin {w W : World} {b c k : Nat} {t : List UInt8} (hk : k < 8) (ht : t.length ≤ 640) (h : SW w b c (new 8) W) :
    Calls Try.prog 11 #[.pointer (some ⟨b, 0, none⟩), .int .i64 (k : Int), .string (M.bs t)] W fun e w' => e = .returned (.int .i64 0) ∧ SW w b c ⟨false, 0, 1, 0, (List.replicate 8 s0).modify k (fun s => { s with text := t, un := true })⟩ w' := by
  have hs : (new 8).sl[k]? = some s0 := by show (List.replicate 8 s0)[k]? = some s0; rw [List.getElem?_replicate, if_pos hk]
  exact Write_at h hs ((Ss.new 8).sm (by omega) _ _ _ _ (by omega) (by omega) (by omega)) rfl t ht
theorem Kp.begun {w W : World} {b c k : Nat} {t : List UInt8} (hk : k < 8) (ht : t.length ≤ 640) (h : SW w b c ⟨false, 0, 1, 0, (List.replicate 8 s0).modify k (fun s => { s with text := t, un := true })⟩ W) :
    Calls Try.prog 15 #[.pointer (some ⟨b, 0, none⟩)] W fun e w' => e = .returned (.int .i64 0) ∧ Kp false w b c k t 2 w' := by
  have h3 := (Ss.new 8).put k t ht
  refine (Sync_at h rfl (h3.sm (by omega) _ _ _ _ (by omega) (by omega) (by omega)) (by show (0 : Nat) ≠ 1; omega)).mono ?_
  rintro e w' ⟨rfl, h6⟩
  refine ⟨rfl, 2, 0, _, by omega, by omega, h3.sync, ?_, h6⟩
  rw [syncL_at _ k { text := t, sure := [], un := true } (by rw [List.getElem?_modify, List.getElem?_replicate, if_pos hk]; simp [s0])]
  rfl

set_option maxRecDepth 8000 in
set_option maxHeartbeats 4000000 in
theorem shelfApart_long (acts : Value) (t : ByteArray) (n : Int) (F : Value) (w : World) (h1 : 640 < t.size) (h2 : t.size ≤ 9223372036854775807) :
    Calls Try.prog 7 #[acts, .string t, .int .i64 n, F] w fun e w' => e = .returned (.bool true) ∧ Below w.heap.size w w' := by
  have CA : Hid (∀ W, Calls Try.prog 8 #[] W fun e w' => e = .returned (.bool true) ∧ Below W.heap.size W w') := awake_at
  have h1' : (640 : Int) < (t.size : Int) := by omega
  have h2' : (t.size : Int) ≤ 9223372036854775807 := by omega
  clear h1 h2
  go_enter Try.func7, Try.ntmps7
  go_wp2_with (go_at_call 8; refine (CA.out _).mono ?_; clear CA; rintro e w0 ⟨rfl, HB⟩)
  go_ret
  exact ⟨rfl, HB⟩
set_option maxRecDepth 8000 in
set_option maxHeartbeats 4000000 in
theorem shelfApart_walk (acts : List Ac) (a : Option Addr) (cap : Nat) (t : List UInt8) (n : Int) (F1 : List Int) (a1 : Option Addr) (cap1 : Nat) (w : World) (hA : Hid (AC w a acts)) (hl : acts.length ≤ 9223372036854775807) (ht : t.length ≤ 640)
    (hF1 : Hid (FI w a1 F1)) (hl1 : F1.length ≤ 9223372036854775807) (hb1 : Hid (∀ x ∈ F1, -9223372036854775808 ≤ x ∧ x ≤ 9223372036854775807)) :
    Calls Try.prog 7 #[.slice a acts.length cap, .string (M.bs t), .int .i64 n, .slice a1 F1.length cap1] w fun e w' => e = .returned (.bool true) ∧ Below w.heap.size w w' := by
  have CA : Hid (∀ W, Calls Try.prog 8 #[] W fun e w' => e = .returned (.bool true) ∧ Below W.heap.size W w') := awake_at
  have C0 : Hid (∀ W, Below w.heap.size w W → Calls Try.prog 9 #[.int .i64 8] W fun e w' => ∃ b c, e = .returned (.pointer (some ⟨b, 0, none⟩)) ∧ w.heap.size ≤ b ∧ w.heap.size ≤ c ∧ SW w b c (new 8) w') := fun W h => New_u 8 (by decide) h
  have hz := M.bs_size t
  have hun := um_wrap8 n
  have hk8 := um_lt n 8 (by omega)
  generalize um n 8 = k at *
  have C1 : Hid (∀ b c W, SW w b c (new 8) W → Calls Try.prog 11 #[.pointer (some ⟨b, 0, none⟩), .int .i64 (k : Int), .string (M.bs t)] W fun e w' => e = .returned (.int .i64 0) ∧ SW w b c ⟨false, 0, 1, 0, (List.replicate 8 s0).modify k (fun s => { s with text := t, un := true })⟩ w') := fun b c W h => Kp.begin hk8 ht h
  have C2 : Hid (∀ b c W, SW w b c ⟨false, 0, 1, 0, (List.replicate 8 s0).modify k (fun s => { s with text := t, un := true })⟩ W → Calls Try.prog 15 #[.pointer (some ⟨b, 0, none⟩)] W fun e w' => e = .returned (.int .i64 0) ∧ Kp false w b c k t 2 w') := fun b c W h => Kp.begun hk8 ht h
  go_enter Try.func7, Try.ntmps7
  go_wp2_with (first
    | (go_at_call 8; refine (CA.out _).mono ?_; clear CA; rintro e w0 ⟨rfl, HB⟩)
    | (go_at_call 9; refine (C0.out _ HB).mono ?_; clear C0; rintro e w1 ⟨b, c, rfl, lb, lc, HS⟩)
    | (go_at_call 11; refine (C1.out _ _ _ HS).mono ?_; clear C1 HS; rintro e w2 ⟨rfl, HS⟩)
    | (go_at_call 15; refine (C2.out _ _ _ HS).mono ?_; clear C2 HS; rintro e w3 ⟨rfl, HK⟩))
  have HK0 : Hid (Kp false w b c k t 2 w3) := HK
  clear HK HB hun
  go_loopw [11, 12, 13, 14, 15] (fun u11 u12 u13 u14 u15 wr => ∃ i : Nat, i ≤ acts.length ∧ i ≤ 150 ∧ u11 = .int .i64 i ∧ Kp false w b c k t (2 + 3 * i) wr) (fun u11 _ _ _ _ _ => 150 - (intOf u11).toNat)
  case atStart => exact ⟨0, Nat.zero_le _, by omega, rfl, HK0.out⟩
  case round =>
    obtain ⟨i, hi, hi2, rfl, HK⟩ := hrel
    clear HK0
    by_cases hlt : i < acts.length ∧ i < 150
    · obtain ⟨x, hx⟩ : ∃ x, acts[i]? = some x := ⟨acts[i], List.getElem?_eq_getElem hlt.1⟩
      obtain ⟨sb, off, rfl, hsb, hc0, hc1, hc2, hc3, hat, htx, fa, fn, fc, hfe⟩ := hA.out i x hx
      rw [hfe] at hc3
      have go : ∀ o, wr.cell? ⟨sb, o, none⟩ = w.cell? ⟨sb, o, none⟩ := fun o => HK.o.cell (p := ⟨sb, o, none⟩) hsb (by show sb ≠ b; omega) (by show sb ≠ c; omega)
      rw [← go] at hc0 hc1 hc2 hc3
      have hu := um_wrap8 x.at'
      have hu2 := um_lt x.at' 8 (by omega)
      generalize um x.at' 8 = j at *
      have j0 : (0 : Int) ≤ (i : Int) := by omega
      have j1 : (i : Int) < (acts.length : Int) := by omega
      have j2 : (i : Int) < 150 := by omega
      have hN : 2 + 3 * i ≤ 500 := by omega
      obtain ⟨N, hNe⟩ : ∃ N, N = 2 + 3 * i := ⟨_, rfl⟩
      rw [← hNe] at HK hN
      have HNE : Hid (N = 2 + 3 * i) := hNe
      have HF : Hid (FT (wr.alloc (.cells #[.int .i64 x.kind, .int .i64 x.at', .string (M.bs x.text), .slice fa fn fc] 30)) b c a1 F1) := fun y z hy => by
        obtain ⟨s1, o1, e1, e2, e3⟩ := hF1.out y z hy
        have hs := HK.o.size
        refine ⟨s1, o1, e1, by simp; omega, by omega, by omega, ?_⟩
        have hbl : Below wr.heap.size wr (wr.alloc (.cells #[.int .i64 x.kind, .int .i64 x.at', .string (M.bs x.text), .slice fa fn fc] 30)) := (Below.refl _ wr).alloc (Nat.le_refl _) _
        rw [hbl.cell (p := ⟨s1, o1 + y, none⟩) (show s1 < wr.heap.size by omega), HK.o.cell (p := ⟨s1, o1 + y, none⟩) e2 (by show s1 ≠ b; omega) (by show s1 ≠ c; omega)]
        exact e3
      have HO : Hid (Off2 b c w (wr.alloc (.cells #[.int .i64 x.kind, .int .i64 x.at', .string (M.bs x.text), .slice fa fn fc] 30))) := HK.o.trans (Off2.of_below ((Below.refl _ wr).alloc (Nat.le_refl _) _))
      have hltb := HK.lt.1
      have hltc := HK.lt.2
      have HBX : Hid (∀ W, Off2 b c (wr.alloc (.cells #[.int .i64 x.kind, .int .i64 x.at', .string (M.bs x.text), .slice fa fn fc] 30)) W → W.cell? ⟨wr.heap.size, 0, none⟩ = some (.int .i64 x.kind)) := fun W h => by
        have hnew := heap_alloc_new wr (.cells #[.int .i64 x.kind, .int .i64 x.at', .string (M.bs x.text), .slice fa fn fc] 30)
        rw [h.cell (p := ⟨wr.heap.size, 0, none⟩) (by simp) (by show wr.heap.size ≠ b; omega) (by show wr.heap.size ≠ c; omega)]
        unfold World.cell?
        rw [hnew]; rfl
      have HK1 := (HK.step ((Below.refl _ wr).alloc (Nat.le_refl _) (.cells #[.int .i64 x.kind, .int .i64 x.at', .string (M.bs x.text), .slice fa fn fc] 30))).base
      clear HK
      have HK := HK1
      have HRD : Hid (Kp false (wr.alloc (.cells #[.int .i64 x.kind, .int .i64 x.at', .string (M.bs x.text), .slice fa fn fc] 30)) b c k t N (wr.alloc (.cells #[.int .i64 x.kind, .int .i64 x.at', .string (M.bs x.text), .slice fa fn fc] 30))) := HK1
      clear HK1 hNe go hfe hx hA hltb hltc
      have hkd : (x.kind == 3) = true ∧ (x.kind == 4) = false ∨ (x.kind == 3) = false ∧ (x.kind == 4) = true ∨ (x.kind == 3) = false ∧ (x.kind == 4) = false := by
        by_cases h3 : x.kind = 3
        · left; simp [h3]
        · by_cases h4 : x.kind = 4
          · right; left; simp [h4]
          · right; right; simp [h3, h4]
      have hjk : (((j : Int) != (k : Int)) = true ∧ j ≠ k) ∨ ((j : Int) != (k : Int)) = false := by
        by_cases h : j = k
        · right; simp [h]
        · left; exact ⟨by simp; omega, h⟩
      rcases hkd with ⟨d3, d4⟩ | ⟨d3, d4⟩ | ⟨d3, d4⟩
      all_goals
        rcases hjk with ⟨e1, e2⟩ | e1
        all_goals
          go_wp2_with (first
            | (go_at_call 11; refine (Kp.write HK (by omega) j hu2 e2 x.text htx).mono ?_; clear HK; rintro e w4 ⟨⟨y, rfl⟩, HK⟩; have hbx := HBX.out _ HK.o)
            | (go_at_call 15; refine (Kp.sync HK (by omega)).mono ?_; clear HK; rintro e w5 ⟨rfl, HK⟩; have hbx2 := HBX.out _ HK.o)
            | (go_at_call 17; refine (Kp.off HK (by omega)).mono ?_; clear HK; rintro e w6 ⟨rfl, HK⟩)
            | (go_at_call 19; refine (Kp.on HK (by omega) F1 a1 cap1 HF.out hl1 hb1.out).mono ?_; clear HK; rintro e w7 ⟨rfl, HK⟩)
            | (go_at_call 13; refine (Kp.read HK).mono ?_; clear HK; rintro e w8 ⟨rfl, HK⟩))
          go_roundw
          case rel => exact ⟨i + 1, by omega, by omega, by go_num, (Kp.rebase HO.out HK).mono (by have := HNE.out; omega)⟩
          case measure => simp [intOf]; omega
    · have hk1 : i < acts.length ∧ 150 ≤ i ∨ acts.length ≤ i := by omega
      clear hlt
      rcases hk1 with ⟨h1', h2'⟩ | h1'
      all_goals
        go_wp2_with fail
        go_ret
        exact ⟨rfl, HK.o.below lb lc (Nat.le_refl _)⟩
end Go.Proofs.Ytdeddiclemdpoaa
