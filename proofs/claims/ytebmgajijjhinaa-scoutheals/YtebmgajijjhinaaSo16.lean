/- New. -/
import Derived.Test.YtebmgajijjhinaaSo15
namespace Go.Proofs.Ytebmgajijjhinaa
open Go.RowKit Go.Maps
set_option linter.unusedVariables false
set_option linter.unusedSimpArgs false

abbrev tKn : TypeId := 63
def knL (q h : Nat) : List Value := [.pointer (some ⟨q, 0, none⟩), .pointer (some ⟨h, 0, none⟩), .int .i64 0, .int .i64 0, .int .i64 0, .int .i64 0, .int .i64 0, .int .i64 0, .int .i64 0, .int .i64 0]
theorem infoKn : (Try.prog.info? tKn).map (·.size) = some 10 := by kernel_rfl
theorem undKn : ∃ fs, Try.prog.underlying tKn = some (.struct fs) := ⟨_, Try.underlying63⟩
theorem knL_one (q h : Nat) : (knL q h).toArray.all (·.oneCell') = true := by simp [knL, Value.oneCell']
theorem HL.map {w W W' : World} {b m : Nat} {v : Value} {T : Int} {F : HU.St} {l : List HU.Ru} (x : HL w b v T F l W) {es : Array MapEntry} {c : Nat} (hm : W.heap[m]? = some (.map es c)) (ho : Of1 m W W') (hw : w.heap.size ≤ m) : HL w b v T F l W' := by
  have ne : ∀ {g : Nat} {C : Array Value} {T : TypeId}, W.heap[g]? = some (.cells C T (0, 0)) → W'.heap[g]? = W.heap[g]? := fun {g C T} e => ho.block g (lt_heap e) (fun e2 => by rw [e2, hm] at e; cases e)
  exact ⟨(ne x.row).trans x.row, own_keep x.own (fun g C e e2 => ne e2), x.b0, ho.bl x.bl hw, x.rep, x.ok, x.t1, x.t2⟩
def z10 : Array Value := #[.pointer none, .pointer none, .int .i64 0, .int .i64 0, .int .i64 0, .int .i64 0, .int .i64 0, .int .i64 0, .int .i64 0, .int .i64 0]
/-- what is known, in the making: so many nodes -/
structure KN (W : World) (q b h kb rb : Nat) (k : Nat) (wr : World) : Prop where
  rs : wr.heap[rb]? = some (.cells z10 tKn (0, 0))
  vt : VT W q b (SO.f0 k) k wr
  hl : HL W h (.slice none 0 0) 5 HU.e0 [] wr
  kn : wr.heap[kb]? = some (.cells (knL q h).toArray tKn (0, 0))
theorem KN.bl {W wr w' : World} {q b h kb rb k : Nat} (x : KN W q b h kb rb k wr) (hb : Bl wr w') : KN W q b h kb rb k w' := ⟨(Below.block hb _ (lt_heap x.rs)).trans x.rs, x.vt.grow hb, x.hl.grow hb, (Below.block hb _ (lt_heap x.kn)).trans x.kn⟩
theorem KN.merge {W wr U : World} {q b h kb rb k : Nat} (x : KN W q b h kb rb k wr) (hk : k < 6) (hU : U = wr.alloc (.cells #[.int .i64 ((k : Int) + 1), .int .i64 0, .int .i64 0] 54)) :
    Calls Try.prog 49 #[.pointer (some ⟨q, 0, none⟩), .slice (some ⟨wr.heap.size, 0, none⟩) 1 1] U fun e w' => ∃ v, e = .returned v ∧ KN W q b h kb rb (k + 1) w' := by
  subst hU
  have x1 := x.bl ((Bl.refl wr).alloc (.cells #[.int .i64 ((k : Int) + 1), .int .i64 0, .int .i64 0] 54))
  refine (Merge_x x1.vt [((k : Int) + 1, 0, 0)] _ 1 (RS.one lyM wr 54 ((k : Int) + 1, 0, 0)) (by simp) (by omega) (fun m hm => by simp at hm; subst hm; exact ⟨by show _ ≤ (k : Int) + 1; omega, by show (k : Int) + 1 ≤ _; omega⟩)).mono ?_
  rintro e w' ⟨a', c', rfl, h1, h2, h3⟩
  obtain ⟨es, c, hm⟩ := x1.vt.mp.isMap
  refine ⟨_, rfl, ?_, by rw [SO.f0_succ]; exact h2, x1.hl.map hm h3 x1.vt.b0, ?_⟩
  · rw [h3.block rb (lt_heap x1.rs) (fun e => by have h9 := x1.rs; rw [e, hm] at h9; cases h9)]
    exact x1.rs
  rw [h3.block kb (lt_heap x1.kn) (fun e => by have h9 := x1.kn; rw [e, hm] at h9; cases h9)]
  exact x1.kn
theorem tms5 : tms 5 = 5 := by decide
set_option maxRecDepth 8000 in
set_option maxHeartbeats 2000000 in
theorem newKnown_x (n : Nat) (hn : n ≤ 6) (W : World) : Calls Try.prog 29 #[.int .i64 (n : Int)] W fun e w' => ∃ q b h, e = .returned (.agg (knL q h).toArray) ∧ VT W q b (SO.f0 n) n w' ∧ HL W h (.slice none 0 0) 5 HU.e0 [] w' := by
  have CN : Hid (∀ U, Bl W U → Calls Try.prog 47 #[.slice none 0 0] U fun e w' => ∃ q b, e = .returned (.pointer (some ⟨q, 0, none⟩)) ∧ VT W q b (SO.f0 0) 0 w' ∧ Bl U w') := fun U hU => by
    refine (New_x U [] none 0 (RS.nil _ _ _) (by simp) (by simp)).mono ?_
    rintro e w' ⟨q, b, rfl, h⟩
    exact ⟨q, b, rfl, ⟨h.row, h.mp, Nat.le_trans (Below.size hU) h.q0, Nat.le_trans (Below.size hU) h.b0, hU.step h.bl⟩, h.bl⟩
  have CH : Hid (∀ U q b, VT W q b (SO.f0 0) 0 U → Calls Try.prog 48 #[.int .i64 5] U fun e w' => ∃ h, e = .returned (.pointer (some ⟨h, 0, none⟩)) ∧ HL W h (.slice none 0 0) 5 HU.e0 [] w' ∧ VT W q b (SO.f0 0) 0 w' ∧ Bl U w') := fun U q b hU => by
    refine (New_h 5 U).mono ?_
    rintro e w' ⟨h, rfl, rfl, hh⟩
    rw [tms5] at hh
    exact ⟨_, rfl, ⟨hh.row, owns_base hh.own (Below.size hU.bl), Nat.le_trans (Below.size hU.bl) hh.b0, hU.bl.step hh.bl, hh.rep, hh.ok, hh.t1, hh.t2⟩, hU.grow hh.bl, hh.bl⟩
  have HB0 : Bl W (W.alloc (.cells #[.pointer none, .pointer none, .int .i64 0, .int .i64 0, .int .i64 0, .int .i64 0, .int .i64 0, .int .i64 0, .int .i64 0, .int .i64 0] tKn)) := (Bl.refl W).alloc _
  have HB := hidI HB0
  clear HB0
  have HZ0 : Hid ((W.alloc (.cells #[.pointer none, .pointer none, .int .i64 0, .int .i64 0, .int .i64 0, .int .i64 0, .int .i64 0, .int .i64 0, .int .i64 0, .int .i64 0] tKn)).heap[W.heap.size]? = some (.cells z10 tKn (0, 0))) := heap_alloc_new W _
  go_enter Try.func29, Try.ntmps29
  go_wp2_with (first
    | (go_at_call 47; refine (CN.out _ HB.out).mono ?_; clear CN; rintro e w1 ⟨q, b, rfl, h1, h2⟩; have H1 := hidI h1; have R1 := hidI ((Below.block h2 _ (lt_heap HZ0.out)).trans HZ0.out); clear h1 h2 HZ0)
    | (go_at_call 48; refine (CH.out _ _ _ H1.out).mono ?_; clear CH H1; rintro e w2 ⟨h, rfl, h3, h4, h5⟩; have H3 := hidI h3; have H4 := hidI h4; have RZ := hidI ((Below.block h5 _ (lt_heap R1.out)).trans R1.out); clear h3 h4 h5 R1))
  obtain ⟨W3, hW3⟩ : ∃ W3, W3 = w2.alloc (.cells (knL q h).toArray tKn) := ⟨_, rfl⟩
  have HK : Hid (KN W q b h w2.heap.size W.heap.size 0 W3) := by
    show KN _ _ _ _ _ _ _ _
    have h5 := RZ.out
    rw [hW3]
    exact ⟨(Below.heap_alloc _ _ _ (lt_heap h5)).trans h5, H4.out.grow ((Bl.refl w2).alloc _), H3.out.grow ((Bl.refl w2).alloc _), heap_alloc_new w2 _⟩
  have e3 : w2.alloc (.cells #[.pointer (some ⟨q, 0, none⟩), .pointer (some ⟨h, 0, none⟩), .int .i64 0, .int .i64 0, .int .i64 0, .int .i64 0, .int .i64 0, .int .i64 0, .int .i64 0, .int .i64 0] 63) = W3 := by rw [hW3]; rfl
  rw [e3]
  clear e3 hW3 H3 H4 RZ HB
  obtain ⟨kb, hkb⟩ : ∃ kb, w2.heap.size = kb := ⟨_, rfl⟩
  rw [hkb] at HK ⊢
  clear hkb
  go_loopw [4] (fun u4 wr => ∃ k : Nat, k ≤ n ∧ u4 = .int .i64 ((k : Int) + 1) ∧ KN W q b h kb W.heap.size k wr) (fun u4 _ => n + 1 - (intOf u4).toNat)
  case atStart => exact ⟨0, Nat.zero_le _, rfl, HK.out⟩
  case round =>
    obtain ⟨k, hk, rfl, hx⟩ := hrel
    clear HK
    obtain ⟨fs, hum⟩ := undKn
    by_cases hlt : k < n
    · have k0 : wr.cell? ⟨kb, 0, none⟩ = some (.pointer (some ⟨q, 0, none⟩)) := by rw [Lib.cell_of_heap hx.kn]; rfl
      have CM := hidI (hx.merge (by omega) rfl)
      clear hx
      go_wp2_with (go_at_call 49; refine (CM.out).mono ?_; clear CM; rintro e w5 ⟨v5, rfl, h5⟩; have H5 := hidI h5; clear h5)
      go_roundw
      case rel => exact ⟨k + 1, by omega, by go_num, H5.out⟩
      case measure => simp [intOf]; omega
    · obtain rfl : k = n := by omega
      have HV := hidI hx.vt
      have HH := hidI hx.hl
      have HKN := hidI hx.kn
      have HRS := hidI hx.rs
      have hs10 : (knL q h).toArray.size = 10 := rfl
      have h1 := knL_one q h
      clear hx
      obtain ⟨KA, hKA⟩ : ∃ KA, (knL q h).toArray = KA := ⟨_, rfl⟩
      rw [hKA] at HKN hs10 h1
      have HKA := hidI hKA
      clear hKA
      go_wp2_with (first
        | (refine wpList_load_row rfl tKn _ rfl kb rfl tKn KA (0, 0) _ HKN.out hum rfl (by rw [hs10]; exact infoKn) ?_; clear HKN)
        | (refine wpList_store_row rfl tKn _ _ rfl W.heap.size KA rfl rfl tKn z10 HRS.out (by rw [hs10]; exact infoKn) (by rw [hs10]; rfl) h1 ?_))
      (try simp only [Exit.inBlock, Exit.then])
      refine bodyPost_ret (results_cell_row rfl _ _ _ tKn KA (0, 0) _ rfl (setRow_heap _ _ _ _ _ _ HRS.out) hum rfl (by rw [hs10]; exact infoKn)) rfl ?_
      have o5 := of1_setRow wr W.heap.size KA
      have hrow := HRS.out
      obtain ⟨es, c, hm⟩ := HV.out.mp.isMap
      refine ⟨q, b, h, by rw [HKA.out], HV.out.off o5 ?_ ?_ (Nat.le_refl _), ?_⟩
      · exact tags hrow HV.out.row (by decide)
      · exact fun e => by rw [e, hm] at hrow; cases hrow
      · have x := HH.out
        refine ⟨(o5.block h x.lt (tags x.row hrow (by decide))).trans x.row, ⟨rfl, Or.inl ⟨rfl, rfl⟩⟩, x.b0, o5.bl x.bl (Nat.le_refl _), x.rep, x.ok, x.t1, x.t2⟩
theorem ok_f0 : ∀ n, K.Ok (SO.f0 n)
  | 0 => K.ok_e0
  | n + 1 => by rw [SO.f0_succ]; exact K.ok_stp (ok_f0 n) _
theorem build80 (q h : Nat) (me n : Int) : Try.prog.built 69 [(0, .agg (knL q h).toArray), (1, .int .i64 me), (2, .int .i64 n)] = some (scC q h (SO.new me 0) (.slice none 0 0) (.slice none 0 0) (.slice none 0 0) |>.setIfInBounds 11 (.int .i64 n)) := by kernel_rfl
theorem new_S0 {W w1 : World} {q b h : Nat} (me : Int) (n : Nat) (h1 : 1 ≤ me) (h2 : me ≤ n) (h3 : n ≤ 6) (hv : VT W q b (SO.f0 n) n w1) (hh : HL W h (.slice none 0 0) 5 HU.e0 [] w1) (C : Array Value) (hC : C = scC q h (SO.new me n) (.slice none 0 0) (.slice none 0 0) (.slice none 0 0)) :
    ∃ P B, S0 W w1.heap.size P B 6 (SO.new me n) (w1.alloc (.cells C tSc)) := by
  subst hC
  have hb : Bl w1 (w1.alloc (.cells (scC q h (SO.new me n) (.slice none 0 0) (.slice none 0 0) (.slice none 0 0)) tSc)) := (Bl.refl w1).alloc _
  have v2 := (hv.grow hb).more h3
  have h4 := hh.grow hb
  refine ⟨⟨q, b, h, .slice none 0 0, none, 0, none, 0, .slice none 0 0⟩, fun k => k = w1.heap.size ∨ k = q ∨ k = b ∨ k = h, ?_⟩
  refine ⟨heap_alloc_new w1 _, v2, ?_, RT.nil _ _ _ _, RT.nil _ _ _ _, ⟨rfl, Or.inl ⟨rfl, rfl⟩⟩, Or.inl rfl, Or.inr (Or.inl rfl), Or.inr (Or.inr (Or.inl rfl)), Or.inr (Or.inr (Or.inr rfl)), fun g e => (by cases e), fun g off e => (by cases e), fun g off e => (by cases e), fun g e => (by cases e), fun k hk => ?_, ?_, Nat.le_refl _⟩
  · show HL W h (.slice none 0 0) 5 HU.e0 (HU.tl HU.e0) _
    rw [HU.tl_e0]; exact h4
  · have s1 := Below.size hv.bl
    have s2 := Below.size hb
    rcases hk with rfl | rfl | rfl | rfl
    · exact ⟨s1, by simp⟩
    · exact ⟨v2.q0, lt_heap v2.row⟩
    · exact ⟨v2.b0, v2.mp.lt⟩
    · exact ⟨h4.b0, h4.lt⟩
  · exact ⟨Int.le_refl _, by show (0 : Int) ≤ 6; omega, Int.le_refl _, by show (0 : Int) ≤ 6; omega, fun k => Int.le_refl _, fun k => by show (0 : Int) ≤ 6; omega, h1, h2, by show (n : Int) ≤ 6; omega, Int.le_refl _, by show (0 : Int) ≤ 6; omega, ok_f0 n, Nat.zero_le _, Nat.zero_le _, fun k hk => (by cases hk), Nat.zero_le _⟩
theorem New_no (me n : Int) (h : ¬ (1 ≤ n ∧ n ≤ 6 ∧ 1 ≤ me ∧ me ≤ n)) (W : World) : Calls Try.prog 10 #[.int .i64 me, .int .i64 n] W fun e w' => e = .returned (.pointer none) ∧ w' = W := by
  rcases (by omega : n < 1 ∨ (¬ n < 1 ∧ n > 6) ∨ (¬ n < 1 ∧ ¬ n > 6 ∧ me < 1) ∨ (¬ n < 1 ∧ ¬ n > 6 ∧ ¬ me < 1 ∧ me > n)) with h1 | ⟨h1, h2⟩ | ⟨h1, h2, h3⟩ | ⟨h1, h2, h3, h4⟩
  all_goals
    clear h
    go_enter Try.func10, Try.ntmps10
    go_wp2_with fail
    go_ret
    exact ⟨rfl, rfl⟩
set_option maxRecDepth 8000 in
theorem New_yes (me : Int) (n : Nat) (h0 : 1 ≤ n) (h1 : 1 ≤ me) (h2 : me ≤ n) (h3 : n ≤ 6) (W : World) : Calls Try.prog 10 #[.int .i64 me, .int .i64 (n : Int)] W fun e w' => ∃ p B, e = .returned (.pointer (some ⟨p, 0, none⟩)) ∧ SC W p B 6 (SO.new me n) w' := by
  have C1 : Hid (Calls Try.prog 29 #[.int .i64 (n : Int)] W fun e w' => ∃ KA C, e = .returned (.agg KA) ∧ Try.prog.built 69 [(0, .agg KA), (1, .int .i64 me), (2, .int .i64 (n : Int))] = some C ∧ (∃ B, SC W w'.heap.size B 6 (SO.new me n) (w'.alloc (.cells C tSc)))) := by
    refine (newKnown_x n h3 W).mono ?_
    rintro e w' ⟨q, b, h, rfl, g1, g2⟩
    refine ⟨_, _, rfl, build80 q h me n, ?_⟩
    obtain ⟨P, B, x⟩ := new_S0 me n h1 h2 h3 g1 g2 _ rfl
    exact ⟨B, P, x⟩
  have e1 : ¬ ((n : Int) < 1) := by omega
  have e2 : ¬ ((n : Int) > 6) := by omega
  have e3 : ¬ (me < 1) := by omega
  have e4 : ¬ (me > (n : Int)) := by omega
  clear h0 h1 h2 h3
  go_enter Try.func10, Try.ntmps10
  go_wp2_with (first
    | (go_at_call 29; refine (C1.out).mono ?_; clear C1; rintro e w1 ⟨KA, C, rfl, b1, h5⟩; have H5 := hidI h5; clear h5)
    | (refine wl_build rfl 69 _ rfl [(0, .agg KA), (1, .int .i64 me), (2, .int .i64 (n : Int))] (by simp only [List.map_toArray, List.map_cons, List.map_nil]; rfl) C b1 ?_))
  go_ret
  obtain ⟨B, h6⟩ := H5.out
  exact ⟨_, B, rfl, h6⟩
end Go.Proofs.Ytebmgajijjhinaa
