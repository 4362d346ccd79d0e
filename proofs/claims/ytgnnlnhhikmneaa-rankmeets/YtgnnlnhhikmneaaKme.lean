/- The walk of the law RankMeets. -/
import Derived.Test.YtgnnlnhhikmneaaKst
import Derived.Test.YtgnnlnhhikmneaaRegT
namespace Go.Proofs.Ytgnnlnhhikmneaa
open Go.RowKit Go.Maps
set_option linter.unusedVariables false
set_option linter.unusedSimpArgs false

theorem rem_u {x : Int} {n : Nat} (hn : n ≤ 1000) : ∃ k : Nat, k ≤ n ∧ (IntKind.u64.wrap x).tmod ((n : Int) + 1) = (k : Int) ∧ wrap64 (k : Int) = (k : Int) ∧ IntKind.i64.wrap (k : Int) = (k : Int) ∧ IntKind.u64.wrap ((n : Int) + 1) = (n : Int) + 1 := by
  have h0 : 0 ≤ IntKind.u64.wrap x := by
    rw [show IntKind.u64.wrap x = x % 18446744073709551616 from by simp [IntKind.wrap, IntKind.signed, IntKind.bits]]
    exact Int.emod_nonneg _ (by decide)
  rw [Int.tmod_eq_emod_of_nonneg h0]
  have h1 := Int.emod_lt_of_pos (IntKind.u64.wrap x) (show (0 : Int) < (n : Int) + 1 by omega)
  have h2 := Int.emod_nonneg (IntKind.u64.wrap x) (show (n : Int) + 1 ≠ 0 by omega)
  have h4 : IntKind.u64.wrap x % ((n : Int) + 1) = ((IntKind.u64.wrap x % ((n : Int) + 1)).toNat : Int) := by omega
  generalize (IntKind.u64.wrap x % ((n : Int) + 1)).toNat = m at *
  refine ⟨m, by omega, h4, ?_, ?_, ?_⟩
  · unfold wrap64; omega
  · simp only [IntKind.wrap, IntKind.bits, IntKind.signed]; simp; omega
  · simp only [IntKind.wrap, IntKind.bits, IntKind.signed]; simp; omega
theorem RS.drop {α : Type} {E : Lay α} {w : World} {b off : Nat} {l : List α} (h : RS E w (some ⟨b, off, none⟩) l) (k : Nat) : RS E w (some ⟨b, off + k * E.k, none⟩) (l.drop k) := fun i x hx => by
  rw [List.getElem?_drop] at hx
  obtain ⟨b', o', e1, e2, e3⟩ := h (k + i) x hx
  cases e1
  refine ⟨b, off + k * E.k, rfl, e2, ?_⟩
  rw [Nat.add_assoc, ← Nat.add_mul]
  exact e3
theorem drop_set {l : List K.Me} {i : Nat} {m : K.Me} (h : l[i]? = some m) : (fun x => x ∈ l.drop i) = fun x => (x ∈ l.drop (i + 1) ∨ x ∈ [m]) ∨ x ∈ [m, m] := by
  obtain ⟨hi, rfl⟩ := List.getElem?_eq_some_iff.1 h
  funext y
  rw [List.drop_eq_getElem_cons hi]
  simp only [List.mem_cons, List.not_mem_nil, or_false, or_self, eq_iff_iff]
  constructor
  · rintro (h | h)
    · exact Or.inr h
    · exact Or.inl (Or.inl h)
  · rintro ((h | h) | h)
    · exact Or.inr h
    · exact Or.inl h
    · exact Or.inl h
theorem RS.dropG {w : World} {a : Option Addr} {l : List K.Me} (h : RS lyM w a l) (k : Nat) : RS lyM w (Option.map (fun x => x.add (k * 3)) a) (l.drop k) := fun i x hx => by
  have hx' := hx
  rw [List.getElem?_drop] at hx'
  obtain ⟨b, off, rfl, _, _⟩ := h (k + i) x hx'
  have e : Option.map (fun x : Addr => x.add (k * 3)) (some ⟨b, off, none⟩) = some ⟨b, off + k * 3, none⟩ := by simp [Addr.add_mid]
  rw [e]
  exact h.drop k i x hx
theorem hidP {p : Prop} (h : p) : Hid p := h
/-- these views know f -/
structure GS (w : World) (f : K.Vw) (ps : List Nat) (W : World) : Prop where
  bl : Bl w W
  g : ∀ q ∈ ps, GetC W (.pointer (some ⟨q, 0, none⟩)) f
theorem GS.grow {w W W' : World} {f : K.Vw} {ps : List Nat} (h : GS w f ps W) (hb : Bl W W') : GS w f ps W' := ⟨h.bl.step hb, fun q hq => (h.g q hq).up hb⟩
theorem GS.cons {w W : World} {f : K.Vw} {ps : List Nat} (h : GS w f ps W) {q : Nat} (hq : GetC W (.pointer (some ⟨q, 0, none⟩)) f) : GS w f (q :: ps) W := ⟨h.bl, fun p hp => by
  rcases List.mem_cons.1 hp with rfl | hp
  · exact hq
  · exact h.g p hp⟩
/-- three views know the same -/
theorem meets1 (l : List K.Me) (g : K.Vw) (h : K.Is (fun x => x ∈ l.drop 0) g) : g = K.mrg K.e0 l := K.is_uniq h (K.is_mrg l K.is_e0) (fun x => by simp)
theorem meets2 (l : List K.Me) (k : Nat) : K.mrg (K.mrg K.e0 (l.drop k)) (l.take k) = K.mrg K.e0 l :=
  K.is_uniq (K.is_mrg (l.take k) (K.is_mrg (l.drop k) K.is_e0)) (K.is_mrg l K.is_e0) (fun x => by
    have : x ∈ l ↔ x ∈ l.take k ∨ x ∈ l.drop k := by rw [← List.mem_append, List.take_append_drop]
    rw [this]; simp [or_comm])
theorem meets3 (l : List K.Me) : K.mrg K.e0 (K.all (K.mrg K.e0 l)) = K.mrg K.e0 l := by
  have h := K.is_mrg l K.is_e0
  exact (K.is_uniq (K.is_mid (T := fun x => False ∨ x ∈ K.all (K.mrg K.e0 l)) h (fun x hx => by simp at hx; exact Or.inr hx) (fun x hx => Or.inr hx)) (K.is_mrg (K.all (K.mrg K.e0 l)) K.is_e0) (fun x => Iff.rfl)).symm
theorem meets4 (l : List K.Me) (k : Nat) : K.mrg (K.mrg K.e0 (l.take k)) (K.all (K.mrg K.e0 l)) = K.mrg K.e0 l := by
  have h := K.is_mrg l K.is_e0
  exact (K.is_uniq (K.is_mid (T := fun x => (False ∨ x ∈ l.take k) ∨ x ∈ K.all (K.mrg K.e0 l)) h (fun x hx => by
    rcases hx with (hx | hx) | hx
    · exact hx.elim
    · exact Or.inl (Or.inr (List.mem_of_mem_take hx))
    · exact Or.inr hx) (fun x hx => Or.inr hx)) (K.is_mrg (K.all (K.mrg K.e0 l)) (K.is_mrg (l.take k) K.is_e0)) (fun x => Iff.rfl)).symm
theorem all_i64 (l : List K.Me) : ∀ m ∈ K.all (K.mrg K.e0 l), i64 m.1 := fun m hm => by
  have := (K.all_of (K.ok_mrg l K.ok_e0) hm).2
  have h1 := this.1; have h2 := this.2.1
  constructor <;> omega
set_option maxRecDepth 8000 in
set_option maxHeartbeats 64000000 in
theorem rankMeets_walk (w : World) (l : List K.Me) (a : Option Addr) (c : Nat) (hv : RS lyM w a l) (hn : l.length ≤ 9223372036854775807) (hc : l.length ≤ c) (hok : ∀ m ∈ l, i64 m.1) (x : Int) :
    Calls Try.prog 4 #[.slice a l.length c, .int .i64 x] w fun e w' => e = .returned (.bool true) ∧ Bl w w' := by
  have C0 : Hid (Calls Try.prog 8 #[] w fun e w' => e = .returned (.bool true) ∧ Bl w w') := awake_10 w
  by_cases h1 : 100 < l.length
  · go_enter Try.func4, Try.ntmps4
    go_wp2_with (go_at_call 8; refine C0.out.mono ?_; clear C0; rintro e w1 ⟨rfl, HB⟩)
    go_ret
    exact ⟨rfl, HB⟩
  obtain ⟨f, hf⟩ : ∃ f, K.mrg K.e0 l = f := ⟨_, rfl⟩
  have M1 : Hid (∀ g, K.Is (fun x => x ∈ l.drop 0) g → g = f) := by rw [← hf]; exact meets1 l
  have M2 : Hid (∀ k, K.mrg (K.mrg K.e0 (l.drop k)) (l.take k) = f) := by rw [← hf]; exact meets2 l
  have M3 : Hid (K.mrg K.e0 (K.all f) = f) := by rw [← hf]; exact meets3 l
  have M4 : Hid (∀ k, K.mrg (K.mrg K.e0 (l.take k)) (K.all f) = f) := by rw [← hf]; exact meets4 l
  have M5 : Hid (∀ m ∈ K.all f, i64 m.1) := by rw [← hf]; exact all_i64 l
  have hal : (K.all f).length ≤ 6 := K.allN_len f 6
  have C1 : Hid (∀ W, Bl w W → Calls Try.prog 9 #[.slice a l.length c] W fun e w' => ∃ q, e = .returned (.pointer (some ⟨q, 0, none⟩)) ∧ GetC w' (.pointer (some ⟨q, 0, none⟩)) f ∧ Bl w w') := fun W h => (New_x W l a c (hv.bl h) (by omega) hok).mono fun e w' ⟨q, b, h1, h2⟩ => ⟨q, h1, by rw [hf] at h2; exact h2.getC, h.step h2.bl⟩
  have C2 : Hid (∀ W, Calls Try.prog 9 #[.slice none 0 0] W fun e w' => ∃ q b, e = .returned (.pointer (some ⟨q, 0, none⟩)) ∧ VT W q b K.e0 0 w') := fun W => New_x W [] none 0 (RS.nil _ _ _) (by simp) (fun m hm => by simp at hm)
  obtain ⟨kk, hkk, hk1, hk2, hk3, hk4⟩ := rem_u (x := x) (n := l.length) (by omega)
  have HV : Hid (RS lyM w a l) := hv
  have HO : Hid (∀ m ∈ l, i64 m.1) := hok
  obtain ⟨fs, hum⟩ := undMe
  clear hv hok hf
  go_enter Try.func4, Try.ntmps4
  go_wp2_with (first
    | (go_at_call 8; refine C0.out.mono ?_; clear C0; rintro e w1 ⟨rfl, HB⟩)
    | (go_at_call 9; refine (C1.out _ HB).mono ?_; clear C1 HB; rintro e w2 ⟨qa, rfl, HGa, HB⟩)
    | (go_at_call 9; refine (C2.out _).mono ?_; clear C2; rintro e w3 ⟨qb, bb, rfl, HVb⟩))
  have HGA : Hid (GetC w2 (.pointer (some ⟨qa, 0, none⟩)) f) := HGa
  have HB0 : Hid (Bl w w2) := HB
  have HV0 : Hid (VT w2 qb bb K.e0 0 w3) := HVb
  clear HGa HB HVb
  go_loopw [7] (fun u7 wr => ∃ (k : Nat) (g : K.Vw), k ≤ l.length ∧ u7 = .int .i64 ((k : Int) - 1) ∧ VT w2 qb bb g (3 * (l.length - k)) wr ∧ K.Is (fun x => x ∈ l.drop k) g) (fun u7 _ => ((intOf u7) + 1).toNat)
  case atStart =>
    refine ⟨l.length, K.e0, Nat.le_refl _, by go_num, by rw [Nat.sub_self]; exact HV0.out, ?_⟩
    have e : (fun x => x ∈ l.drop l.length) = fun _ => False := by funext x; simp
    rw [e]; exact K.is_e0
  case round =>
    obtain ⟨k, g, hk, rfl, hx, hI⟩ := hrel
    clear HV0
    by_cases hlt : 0 < k
    · obtain ⟨i, hi⟩ : ∃ i, k = i + 1 := ⟨k - 1, by omega⟩
      obtain ⟨m, hm⟩ : ∃ m, l[i]? = some m := ⟨l[i]'(by omega), List.getElem?_eq_getElem _⟩
      have hki : (k : Int) - 1 = (i : Int) := by omega
      rw [hki]
      obtain ⟨b2, off, rfl, hb2, hrg⟩ := HV.out.bl (HB0.out.step hx.bl) i m hm
      have hmi := HO.out m (List.mem_of_getElem? hm)
      have HRL : Hid (∀ U, Bl w2 U → U.rangeAt b2 (off + i * 3) [.int .i64 m.1, .int .i64 m.2.1, .int .i64 m.2.2]) := fun U hU => by
        obtain ⟨b', o', e1, e2, e3⟩ := HV.out.bl (HB0.out.step hU) i m hm
        cases e1
        exact e3
      have HI2 : Hid (K.Is (fun x => x ∈ l.drop i) (K.mrg (K.mrg g [m]) [m, m])) := by
        have h := K.is_mrg [m, m] (K.is_mrg [m] hI)
        have e : (fun x => x ∈ l.drop i) = fun x => (x ∈ l.drop k ∨ x ∈ [m]) ∨ x ∈ [m, m] := by rw [hi]; exact drop_set hm
        show K.Is _ _
        rw [e]; exact h
      obtain ⟨g1, hg1⟩ : ∃ x, K.mrg g [m] = x := ⟨_, rfl⟩
      obtain ⟨g2, hg2⟩ : ∃ x, K.mrg g1 [m, m] = x := ⟨_, rfl⟩
      rw [hg1, hg2] at HI2
      have D1 : Hid (∀ (W : World) N (n : Nat), n = W.heap.size → N ≤ 100000 → VT w2 qb bb g N W → Calls Try.prog 11 #[.pointer (some ⟨qb, 0, none⟩), .slice (some ⟨n, 0, none⟩) 1 1] (W.alloc (.cells #[.int .i64 m.1, .int .i64 m.2.1, .int .i64 m.2.2] 28)) fun e w' => ∃ a' c' t, e = .returned (.slice a' t c') ∧ VT w2 qb bb g1 (N + 1) w') := fun W N n hn hN h => by
        subst hn
        refine (Merge_x (h.grow ((Bl.refl W).alloc _)) [m] _ 1 (rs_new lyM W _ [m] _ rfl) (by simp) hN (fun x hx => by simp at hx; subst hx; exact hmi)).mono ?_
        rintro e w' ⟨a', c', h1, h2, h3, h4⟩
        exact ⟨a', c', _, h1, by rw [← hg1]; exact h3⟩
      have D2 : Hid (∀ (W : World) N (n : Nat), n = W.heap.size → N ≤ 100000 → VT w2 qb bb g1 N (W.alloc (.cells #[.int .i64 m.1, .int .i64 m.2.1, .int .i64 m.2.2, .int .i64 m.1, .int .i64 m.2.1, .int .i64 m.2.2] 28)) → Calls Try.prog 11 #[.pointer (some ⟨qb, 0, none⟩), .slice (some ⟨n, 0, none⟩) 2 2] (W.alloc (.cells #[.int .i64 m.1, .int .i64 m.2.1, .int .i64 m.2.2, .int .i64 m.1, .int .i64 m.2.1, .int .i64 m.2.2] 28)) fun e w' => ∃ a' c' t, e = .returned (.slice a' t c') ∧ VT w2 qb bb g2 (N + 2) w') := fun W N n hn hN h => by
        subst hn
        refine (Merge_x h [m, m] _ 2 (rs_new lyM W _ [m, m] _ rfl) (by simp) hN (fun x hx => by simp at hx; subst hx; exact hmi)).mono ?_
        rintro e w' ⟨a', c', h1, h2, h3, h4⟩
        exact ⟨a', c', _, h1, by rw [← hg2]; exact h3⟩
      have HX : VT w2 qb bb g (3 * (l.length - k)) wr := hx
      have HR : Hid (wr.rangeAt b2 (off + i * 3) [.int .i64 m.1, .int .i64 m.2.1, .int .i64 m.2.2]) := hrg
      have hil : (i : Int) < (l.length : Int) := by omega
      have hiw : wrap64 ((i : Int) - 1) = (i : Int) - 1 := by unfold wrap64; omega
      have hiw2 : IntKind.i64.wrap ((i : Int) - 1) = (i : Int) - 1 := by simp only [IntKind.wrap, IntKind.bits, IntKind.signed]; simp; omega
      have hii : i < l.length := by omega
      have HN : Hid (3 * (l.length - k) + 1 + 2 = 3 * (l.length - i) ∧ 3 * (l.length - k) + 1 ≤ 100000 ∧ 3 * (l.length - k) ≤ 100000) := by show _ ∧ _ ∧ _; omega
      clear hx hrg hI hg1 hg2 hm hi hki HO HV hk hlt hmi
      generalize 3 * (l.length - k) = NN at *
      obtain ⟨m0, m1, m2⟩ := m
      simp only at *
      go_wp2_with (first
        | (refine wpList_load_mid rfl 28 _ rfl b2 (off + i * 3) rfl [.int .i64 m0, .int .i64 m1, .int .i64 m2] _ HR.out hum rfl infoMe ?_; clear HR)
        | (go_at_call 11; refine (D1.out _ _ _ rfl HN.out.2.2 HX).mono ?_; clear D1 HX; rintro e W1 ⟨a1, c1, t1, rfl, HX⟩))
      (try simp only [List.append_eq, List.cons_append, List.nil_append])
      refine wp_region_noPanic ?_
      refine wp_region_held_drew (S := fun U => U.rangeAt b2 (off + i * 3) [.int .i64 m0, .int .i64 m1, .int .i64 m2]) (by kernel_rfl) (HRL.out _ ((HX.grow ((Bl.refl _).drewN 1))).bl) (fun hHeld => ?_)
      refine wpAnyH_take (i := 0) rfl (by kernel_rfl) (by kernel_rfl) (by kernel_rfl) (fun _ _ _ h => h) (yi_move (by kernel_rfl) rfl rfl) (by assumption) ?_
      simp only [Act.put, List.getElem_toArray, List.getElem_cons_succ, List.getElem_cons_zero, List.setIfInBounds_toArray, List.set_cons_zero, List.set_cons_succ]
      refine wpAnyH_take (i := 1) rfl (by kernel_rfl) (by kernel_rfl) (by kernel_rfl) (fun _ _ _ h => h) (yi_move (by kernel_rfl) rfl rfl) (by assumption) ?_
      simp only [Act.put, List.getElem_toArray, List.getElem_cons_succ, List.getElem_cons_zero, List.setIfInBounds_toArray, List.set_cons_zero, List.set_cons_succ]
      refine wpAnyH_take (i := 2) rfl (by kernel_rfl) (by kernel_rfl) (by kernel_rfl) (fun _ _ _ h => h) (yi_move (by kernel_rfl) rfl rfl) (by assumption) ?_
      simp only [Act.put, List.getElem_toArray, List.getElem_cons_succ, List.getElem_cons_zero, List.setIfInBounds_toArray, List.set_cons_zero, List.set_cons_succ]
      refine wpAnyH_take (i := 3) (v := ?_) rfl (by kernel_rfl) (by kernel_rfl) (by kernel_rfl) (fun _ _ _ h => h) (Or.inl ⟨by kernel_rfl, ?_⟩) (by assumption) ?_
      rotate_left
      · (intro w hSw; (try dsimp only at hSw); go_simp; (try with_reducible rfl))
      simp only [Act.put, List.getElem_toArray, List.getElem_cons_succ, List.getElem_cons_zero, List.setIfInBounds_toArray, List.set_cons_zero, List.set_cons_succ]
      refine wpAnyH_take (i := 4) (v := .agg (List.toArray [.int .i64 m0, .int .i64 m1, .int .i64 m2])) rfl (by kernel_rfl) (by kernel_rfl) (by kernel_rfl) (fun _ _ _ h => h) (yieldsIf_load_mid (by kernel_rfl) _ (.tmp 37) (by kernel_rfl) b2 (off + i * 3) (by kernel_rfl) [.int .i64 m0, .int .i64 m1, .int .i64 m2] _ (fun W hW => hW) hum rfl infoMe) (by assumption) ?_
      simp only [Act.put, List.getElem_toArray, List.getElem_cons_succ, List.getElem_cons_zero, List.setIfInBounds_toArray, List.set_cons_zero, List.set_cons_succ]
      refine wpAnyH_take (i := 5) rfl (by kernel_rfl) (by kernel_rfl) (by kernel_rfl) (fun _ _ _ h => h) (yi_move (by kernel_rfl) rfl rfl) (by assumption) ?_
      simp only [Act.put, List.getElem_toArray, List.getElem_cons_succ, List.getElem_cons_zero, List.setIfInBounds_toArray, List.set_cons_zero, List.set_cons_succ]
      refine wpAnyH_take (i := 6) rfl (by kernel_rfl) (by kernel_rfl) (by kernel_rfl) (fun _ _ _ h => h) (yi_move (by kernel_rfl) rfl rfl) (by assumption) ?_
      simp only [Act.put, List.getElem_toArray, List.getElem_cons_succ, List.getElem_cons_zero, List.setIfInBounds_toArray, List.set_cons_zero, List.set_cons_succ]
      refine wpAnyH_take (i := 7) (v := ?_) rfl (by kernel_rfl) (by kernel_rfl) (by kernel_rfl) (fun _ _ _ h => h) (Or.inl ⟨by kernel_rfl, ?_⟩) (by assumption) ?_
      rotate_left
      · (intro w hSw; (try dsimp only at hSw); go_simp; (try with_reducible rfl))
      simp only [Act.put, List.getElem_toArray, List.getElem_cons_succ, List.getElem_cons_zero, List.setIfInBounds_toArray, List.set_cons_zero, List.set_cons_succ]
      refine wpAnyH_take (i := 8) (v := .agg (List.toArray [.int .i64 m0, .int .i64 m1, .int .i64 m2])) rfl (by kernel_rfl) (by kernel_rfl) (by kernel_rfl) (fun _ _ _ h => h) (yieldsIf_load_mid (by kernel_rfl) _ (.tmp 41) (by kernel_rfl) b2 (off + i * 3) (by kernel_rfl) [.int .i64 m0, .int .i64 m1, .int .i64 m2] _ (fun W hW => hW) hum rfl infoMe) (by assumption) ?_
      simp only [Act.put, List.getElem_toArray, List.getElem_cons_succ, List.getElem_cons_zero, List.setIfInBounds_toArray, List.set_cons_zero, List.set_cons_succ]
      refine wpAnyH_ready (rs := [9]) (by kernel_rfl) (by simp) ?_
      refine AllReadyH.cons (o := _) rfl (fun K hK => ?_) AllReadyH.nil
      go_simp
      refine hK.out _ _ (HRL.out _ (((HX.grow ((Bl.refl _).drewN 1)).grow ((Bl.refl _).alloc _))).bl) (fun hHeld => ?_)
      clear hK K
      (try simp only [Act.put, List.getElem_toArray, List.getElem_cons_succ, List.getElem_cons_zero, List.setIfInBounds_toArray, List.set_cons_zero, List.set_cons_succ])
      refine wpAnyH_ready (rs := [10]) (by kernel_rfl) (by simp) ?_
      refine AllReadyH.cons (o := _) rfl (fun K hK => ?_) AllReadyH.nil
      go_simp
      go_at_call 11; refine (D2.out _ _ _ (by first | rfl | simp) HN.out.2.1 ((HX.grow ((Bl.refl _).drewN 1)).grow ((Bl.refl _).alloc _))).mono ?_; rintro e V11 ⟨a11, c11, t11, rfl, HB11⟩
      refine hK.out _ _ (HRL.out _ (HB11).bl) (fun hHeld => ?_)
      clear hK K
      (try simp only [Act.put, List.getElem_toArray, List.getElem_cons_succ, List.getElem_cons_zero, List.setIfInBounds_toArray, List.set_cons_zero, List.set_cons_succ])
      refine wpAnyH_done (by kernel_rfl) ?_ _
      refine NoPanic.normal ?_
      have HE := HB11
      rw [HN.out.1] at HE
      go_wp2_with fail
      go_roundw
      case rel => exact ⟨i, g2, by omega, by go_num, HE, HI2.out⟩
      case measure => (simp [intOf]; try omega)
    · obtain rfl : k = 0 := by omega
      have hgf : g = f := M1.out g hI
      rw [hgf] at hx
      have HS0 : GS w f [qb, qa] wr := ⟨HB0.out.step hx.bl, fun q hq => by
        simp at hq
        rcases hq with rfl | rfl
        · exact hx.getC
        · exact HGA.out.up hx.bl⟩
      have htk : (l.take kk).length = kk := by rw [List.length_take]; omega
      have hdk : (l.drop kk).length = l.length - kk := List.length_drop
      have OT : Hid (∀ m ∈ l.take kk, i64 m.1) := fun m hm => HO.out m (List.mem_of_mem_take hm)
      have OD : Hid (∀ m ∈ l.drop kk, i64 m.1) := fun m hm => HO.out m (List.mem_of_mem_drop hm)
      have E4 : Hid (∀ W q b N, Bl w W → N ≤ 1000 → VT wr q b (K.mrg K.e0 (l.drop kk)) N W → Calls Try.prog 11 #[.pointer (some ⟨q, 0, none⟩), .slice a kk c] W fun e w' => ∃ a' c' t, e = .returned (.slice a' t c') ∧ VT wr q b f (N + kk) w') := fun W q b N hb hN h => by
        have := Merge_x h (l.take kk) a c ((HV.out.bl hb).take kk) (by omega) (by omega) OT.out
        rw [htk, M2.out kk] at this
        exact this.mono fun e w' ⟨a', c', h1, _, h2, _⟩ => ⟨a', c', _, h1, h2⟩
      have E5 : Hid (∀ W q, GetC W (.pointer (some ⟨q, 0, none⟩)) f → Calls Try.prog 13 #[.pointer (some ⟨q, 0, none⟩)] W fun e w' => ∃ a c, e = .returned (.slice a (K.all f).length c) ∧ RS lyM w' a (K.all f) ∧ Bl W w') := fun W q h => All_g h
      have E6 : Hid (∀ W a c, RS lyM W a (K.all f) → Calls Try.prog 9 #[.slice a (K.all f).length c] W fun e w' => ∃ q, e = .returned (.pointer (some ⟨q, 0, none⟩)) ∧ GetC w' (.pointer (some ⟨q, 0, none⟩)) f ∧ Bl W w') := fun W a c h => (New_x W (K.all f) a c h (by omega) M5.out).mono fun e w' ⟨q, b, h1, h2⟩ => ⟨q, h1, by rw [M3.out] at h2; exact h2.getC, h2.bl⟩
      have E7 : Hid (∀ W, Bl w W → Calls Try.prog 9 #[.slice a kk c] W fun e w' => ∃ q b, e = .returned (.pointer (some ⟨q, 0, none⟩)) ∧ VT W q b (K.mrg K.e0 (l.take kk)) kk w') := fun W hb => by
        have := New_x W (l.take kk) a c ((HV.out.bl hb).take kk) (by omega) OT.out
        rw [htk] at this
        exact this
      have E9 : Hid (∀ V W q b a c, VT V q b (K.mrg K.e0 (l.take kk)) kk W → RS lyM W a (K.all f) → Calls Try.prog 11 #[.pointer (some ⟨q, 0, none⟩), .slice a (K.all f).length c] W fun e w' => ∃ a' c' t, e = .returned (.slice a' t c') ∧ GetC w' (.pointer (some ⟨q, 0, none⟩)) f ∧ Bl V w') := fun V W q b a c h hr => by
        have := Merge_x h (K.all f) a c hr (by omega) (by omega) M5.out
        rw [M4.out kk] at this
        exact this.mono fun e w' ⟨a', c', h1, _, h2, _⟩ => ⟨a', c', _, h1, h2.getC, h2.bl⟩
      have ES : Hid (∀ W a1 c1 a2 c2, RS lyM W a1 (K.all f) → RS lyM W a2 (K.all f) → Calls Try.prog 10 #[.slice a1 (K.all f).length c1, .slice a2 (K.all f).length c2] W fun e w' => e = .returned (.bool true) ∧ Bl W w') := fun W a1 c1 a2 c2 h1 h2 => (Same_x (K.all f) (K.all f) a1 a2 c1 c2 W h1 h2 (by unfold maxLen; omega) (by unfold maxLen; omega)).mono fun e w' ⟨h, n, hn⟩ => ⟨by rw [h]; simp, by rw [hn]; exact (Bl.refl W).drewN n⟩
      have E3 : Hid (c ≠ kk → Calls Try.prog 9 #[.slice (Option.map (fun x => x.add (kk * 3)) a) (l.length - kk) (c - kk)] wr fun e w' => ∃ q b, e = .returned (.pointer (some ⟨q, 0, none⟩)) ∧ VT wr q b (K.mrg K.e0 (l.drop kk)) (l.length - kk) w') := fun _ => by
        have := New_x wr (l.drop kk) (Option.map (fun x => x.add (kk * 3)) a) (c - kk) ((HV.out.bl HS0.bl).dropG kk) (by omega) OD.out
        rw [hdk] at this
        exact this
      have E3b : Hid (c = kk → Calls Try.prog 9 #[.slice a 0 0] wr fun e w' => ∃ q b, e = .returned (.pointer (some ⟨q, 0, none⟩)) ∧ VT wr q b (K.mrg K.e0 (l.drop kk)) (l.length - kk) w') := fun he => by
        have hd : l.drop kk = [] := List.drop_eq_nil_of_le (by omega)
        have h0 : l.length - kk = 0 := by omega
        rw [hd, h0]
        exact New_x wr [] a 0 (RS.nil _ _ _) (by simp) (fun m hm => by simp at hm)
      have HNK : Hid (l.length - kk ≤ 1000) := by show _ ≤ _; omega
      clear hx hI HGA M1 M2 M3 M4 M5 HB0 hlt HV HO OT OD htk hdk hgf
      generalize K.all f = AL at *
      generalize AL.length = NAL at *
      generalize K.mrg K.e0 (l.drop kk) = fd at *
      generalize K.mrg K.e0 (l.take kk) = ft at *
      by_cases hck : c = kk
      · have E3c := hidP (E3b.out hck)
        clear E3 E3b
        have hlk : l.length = c := by omega
        subst hck
        rw [hlk] at E3c HNK hk1 hk4 ⊢
        have h100 : ¬ 100 < c := by omega
        clear hlk hkk hc h1 hn hk
        go_wp2_with (first
          | (go_at_call 9; refine E3c.out.mono ?_; clear E3c; rintro e V3 ⟨qc, bc, rfl, HC⟩)
          | (go_at_call 11; refine (E4.out _ _ _ _ (HS0.bl.step HC.bl) HNK.out HC).mono ?_; clear E4 HC; rintro e V4 ⟨a4, c4, t4, rfl, HC⟩; have HS := (HS0.grow HC.bl).cons HC.getC; clear HC HS0; have X5 := hidP <| E5.out _ _ (HS.g qc (by simp)))
          | (go_at_call 13; refine X5.out.mono ?_; clear X5; rintro e V5 ⟨a5, c5, rfl, HA5, HB5⟩; replace HS := HS.grow HB5; clear HB5; have X6 := hidP <| E6.out _ _ c5 HA5; clear HA5 E6)
          | (go_at_call 9; refine X6.out.mono ?_; clear X6; rintro e V6 ⟨qd, rfl, HG6, HB6⟩; replace HS := (HS.grow HB6).cons HG6; clear HG6 HB6; have X7 := hidP <| E7.out _ HS.bl; clear E7)
          | (go_at_call 9; refine X7.out.mono ?_; clear X7; rintro e V7 ⟨qe, be, rfl, HE7⟩; have X8 := hidP <| E5.out _ _ ((HS.g qc (by simp)).up HE7.bl))
          | (go_at_call 13; refine X8.out.mono ?_; clear X8; rintro e V8 ⟨a8, c8, rfl, HA8, HB8⟩; have X9 := hidP <| E9.out _ _ _ _ _ c8 (HE7.grow HB8) HA8; clear HA8 HB8 HE7 E9)
          | (go_at_call 11; refine X9.out.mono ?_; clear X9; rintro e V9 ⟨a9, c9, t9, rfl, HG9, HB9⟩; replace HS := (HS.grow HB9).cons HG9; clear HG9 HB9; have Y1 := hidP <| E5.out _ _ (HS.g qa (by simp)))
          | (go_at_call 13; refine Y1.out.mono ?_; clear Y1; rintro e U1 ⟨p1, r1, rfl, HP, HB⟩; replace HS := HS.grow HB; clear HB; have Y2 := hidP <| E5.out _ _ (HS.g qb (by simp)))
          | (go_at_call 13; refine Y2.out.mono ?_; clear Y2; rintro e U2 ⟨p2, r2, rfl, HP2, HB⟩; replace HS := HS.grow HB; have Y3 := hidP <| ES.out _ _ r1 _ r2 (HP.bl HB) HP2; clear HB HP HP2)
          | (go_at_call 10; refine Y3.out.mono ?_; clear Y3; rintro e U3 ⟨rfl, HB⟩; replace HS := HS.grow HB; clear HB; have Y4 := hidP <| E5.out _ _ (HS.g qa (by simp)))
          | (go_at_call 13; refine Y4.out.mono ?_; clear Y4; rintro e U4 ⟨p4, r4, rfl, HP, HB⟩; replace HS := HS.grow HB; clear HB; have Y5 := hidP <| E5.out _ _ (HS.g qc (by simp)))
          | (go_at_call 13; refine Y5.out.mono ?_; clear Y5; rintro e U5 ⟨p5, r5, rfl, HP2, HB⟩; replace HS := HS.grow HB; have Y6 := hidP <| ES.out _ _ r4 _ r5 (HP.bl HB) HP2; clear HB HP HP2)
          | (go_at_call 10; refine Y6.out.mono ?_; clear Y6; rintro e U6 ⟨rfl, HB⟩; replace HS := HS.grow HB; clear HB; have Y7 := hidP <| E5.out _ _ (HS.g qa (by simp)))
          | (go_at_call 13; refine Y7.out.mono ?_; clear Y7; rintro e U7 ⟨p7, r7, rfl, HP, HB⟩; replace HS := HS.grow HB; clear HB; have Y8 := hidP <| E5.out _ _ (HS.g qd (by simp)))
          | (go_at_call 13; refine Y8.out.mono ?_; clear Y8; rintro e U8 ⟨p8, r8, rfl, HP2, HB⟩; replace HS := HS.grow HB; have Y9 := hidP <| ES.out _ _ r7 _ r8 (HP.bl HB) HP2; clear HB HP HP2)
          | (go_at_call 10; refine Y9.out.mono ?_; clear Y9; rintro e U9 ⟨rfl, HB⟩; replace HS := HS.grow HB; clear HB; have Y10 := hidP <| E5.out _ _ (HS.g qa (by simp)))
          | (go_at_call 13; refine Y10.out.mono ?_; clear Y10; rintro e U10 ⟨p10, r10, rfl, HP, HB⟩; replace HS := HS.grow HB; clear HB; have Y11 := hidP <| E5.out _ _ (HS.g qe (by simp)))
          | (go_at_call 13; refine Y11.out.mono ?_; clear Y11; rintro e U11 ⟨p11, r11, rfl, HP2, HB⟩; replace HS := HS.grow HB; have Y12 := hidP <| ES.out _ _ r10 _ r11 (HP.bl HB) HP2; clear HB HP HP2)
          | (go_at_call 10; refine Y12.out.mono ?_; clear Y12; rintro e U12 ⟨rfl, HB⟩; replace HS := HS.grow HB; clear HB))
        go_ret
        exact ⟨rfl, HS.bl⟩
      · have E3c := hidP (E3.out hck)
        clear E3 E3b
        go_wp2_with (first
          | (go_at_call 9; refine E3c.out.mono ?_; clear E3c; rintro e V3 ⟨qc, bc, rfl, HC⟩)
          | (go_at_call 11; refine (E4.out _ _ _ _ (HS0.bl.step HC.bl) HNK.out HC).mono ?_; clear E4 HC; rintro e V4 ⟨a4, c4, t4, rfl, HC⟩; have HS := (HS0.grow HC.bl).cons HC.getC; clear HC HS0; have X5 := hidP <| E5.out _ _ (HS.g qc (by simp)))
          | (go_at_call 13; refine X5.out.mono ?_; clear X5; rintro e V5 ⟨a5, c5, rfl, HA5, HB5⟩; replace HS := HS.grow HB5; clear HB5; have X6 := hidP <| E6.out _ _ c5 HA5; clear HA5 E6)
          | (go_at_call 9; refine X6.out.mono ?_; clear X6; rintro e V6 ⟨qd, rfl, HG6, HB6⟩; replace HS := (HS.grow HB6).cons HG6; clear HG6 HB6; have X7 := hidP <| E7.out _ HS.bl; clear E7)
          | (go_at_call 9; refine X7.out.mono ?_; clear X7; rintro e V7 ⟨qe, be, rfl, HE7⟩; have X8 := hidP <| E5.out _ _ ((HS.g qc (by simp)).up HE7.bl))
          | (go_at_call 13; refine X8.out.mono ?_; clear X8; rintro e V8 ⟨a8, c8, rfl, HA8, HB8⟩; have X9 := hidP <| E9.out _ _ _ _ _ c8 (HE7.grow HB8) HA8; clear HA8 HB8 HE7 E9)
          | (go_at_call 11; refine X9.out.mono ?_; clear X9; rintro e V9 ⟨a9, c9, t9, rfl, HG9, HB9⟩; replace HS := (HS.grow HB9).cons HG9; clear HG9 HB9; have Y1 := hidP <| E5.out _ _ (HS.g qa (by simp)))
          | (go_at_call 13; refine Y1.out.mono ?_; clear Y1; rintro e U1 ⟨p1, r1, rfl, HP, HB⟩; replace HS := HS.grow HB; clear HB; have Y2 := hidP <| E5.out _ _ (HS.g qb (by simp)))
          | (go_at_call 13; refine Y2.out.mono ?_; clear Y2; rintro e U2 ⟨p2, r2, rfl, HP2, HB⟩; replace HS := HS.grow HB; have Y3 := hidP <| ES.out _ _ r1 _ r2 (HP.bl HB) HP2; clear HB HP HP2)
          | (go_at_call 10; refine Y3.out.mono ?_; clear Y3; rintro e U3 ⟨rfl, HB⟩; replace HS := HS.grow HB; clear HB; have Y4 := hidP <| E5.out _ _ (HS.g qa (by simp)))
          | (go_at_call 13; refine Y4.out.mono ?_; clear Y4; rintro e U4 ⟨p4, r4, rfl, HP, HB⟩; replace HS := HS.grow HB; clear HB; have Y5 := hidP <| E5.out _ _ (HS.g qc (by simp)))
          | (go_at_call 13; refine Y5.out.mono ?_; clear Y5; rintro e U5 ⟨p5, r5, rfl, HP2, HB⟩; replace HS := HS.grow HB; have Y6 := hidP <| ES.out _ _ r4 _ r5 (HP.bl HB) HP2; clear HB HP HP2)
          | (go_at_call 10; refine Y6.out.mono ?_; clear Y6; rintro e U6 ⟨rfl, HB⟩; replace HS := HS.grow HB; clear HB; have Y7 := hidP <| E5.out _ _ (HS.g qa (by simp)))
          | (go_at_call 13; refine Y7.out.mono ?_; clear Y7; rintro e U7 ⟨p7, r7, rfl, HP, HB⟩; replace HS := HS.grow HB; clear HB; have Y8 := hidP <| E5.out _ _ (HS.g qd (by simp)))
          | (go_at_call 13; refine Y8.out.mono ?_; clear Y8; rintro e U8 ⟨p8, r8, rfl, HP2, HB⟩; replace HS := HS.grow HB; have Y9 := hidP <| ES.out _ _ r7 _ r8 (HP.bl HB) HP2; clear HB HP HP2)
          | (go_at_call 10; refine Y9.out.mono ?_; clear Y9; rintro e U9 ⟨rfl, HB⟩; replace HS := HS.grow HB; clear HB; have Y10 := hidP <| E5.out _ _ (HS.g qa (by simp)))
          | (go_at_call 13; refine Y10.out.mono ?_; clear Y10; rintro e U10 ⟨p10, r10, rfl, HP, HB⟩; replace HS := HS.grow HB; clear HB; have Y11 := hidP <| E5.out _ _ (HS.g qe (by simp)))
          | (go_at_call 13; refine Y11.out.mono ?_; clear Y11; rintro e U11 ⟨p11, r11, rfl, HP2, HB⟩; replace HS := HS.grow HB; have Y12 := hidP <| ES.out _ _ r10 _ r11 (HP.bl HB) HP2; clear HB HP HP2)
          | (go_at_call 10; refine Y12.out.mono ?_; clear Y12; rintro e U12 ⟨rfl, HB⟩; replace HS := HS.grow HB; clear HB))
        go_ret
        exact ⟨rfl, HS.bl⟩
end Go.Proofs.Ytgnnlnhhikmneaa
