/- sought, nextInLine. -/
import Derived.Test.YtebmgajijjhinaaSo7
namespace Go.Proofs.Ytebmgajijjhinaa
open Go.RowKit Go.Maps
set_option linter.unusedVariables false
set_option linter.unusedSimpArgs false

def sgV (o : Option Int) : Value := match o with | some k => .tuple #[.int .i64 k, .bool true] | none => .tuple #[.int .i64 0, .bool false]
theorem those_len (s : SO.Sc) (pr : K.Me → Bool) : (SO.those s pr).length ≤ 6 := by
  unfold SO.those
  rw [List.length_map]
  have h1 := List.length_filter_le pr (K.all s.f)
  have h2 := K.allN_len s.f 6
  unfold K.all at h1 ⊢
  omega
set_option maxRecDepth 8000 in
set_option maxHeartbeats 2000000 in
theorem sought_x {w W : World} {p : Nat} {P : Pl} {B : Nat → Prop} {N : Nat} {s : SO.Sc} (x : S0 w p P B N s W) (hN : N ≤ 100000000000) (hnow : 1 ≤ s.now) :
    Calls Try.prog 30 #[.pointer (some ⟨p, 0, none⟩)] W fun e w' => e = .returned (sgV (SO.sought s)) ∧ Bl W w' := by
  have c2 := x.c2
  have eg : ∀ args w, (callFunc 50 args).run Try.prog w = .ok (.enter 50 args) w := enters_of Try.func50 (by kernel_rfl) rfl
  have C1 : Hid (Calls Try.prog 16 #[.pointer (some ⟨p, 0, none⟩), .func (.func 50) #[.pointer (some ⟨p, 0, none⟩)] #[]] W.drew fun e w' => ∃ a c, e = .returned (.slice a (SO.those s (fun m => !SO.isP s m.1)).length c) ∧ RS lyI w' a (SO.those s (fun m => !SO.isP s m.1)) ∧ Bl W w') := by
    refine (those_x (x.grow (Bl.refl W).drew) 50 (fun m => !SO.isP s m.1) eg (fun W' m _ hb => isAbsent_x ((x.grow (Bl.refl W).drew).grow hb) m)).mono ?_
    rintro e w' ⟨a, c, rfl, h1, h2, _⟩
    exact ⟨a, c, rfl, h1, (Bl.refl W).drew.step h2⟩
  have HS : Hid (SO.sought s = if (SO.rnd s).tmod 4 ≠ 0 then none else (SO.those s (fun m => !SO.isP s m.1))[(((SO.rnd s).tdiv 4).tmod (SO.those s (fun m => !SO.isP s m.1)).length).toNat]?) := rfl
  have hl := those_len s (fun m => !SO.isP s m.1)
  have hn2 := x.num.n2
  have HR : Hid (SO.rnd s = (s.now - 1).tdiv 4 + 1) := rfl
  generalize SO.sought s = so at *
  generalize SO.those s (fun m => !SO.isP s m.1) = A at *
  generalize SO.rnd s = R at *
  generalize s.now = now at *
  obtain ⟨q, hq⟩ : ∃ q, (now - 1).tdiv 4 = q := ⟨_, rfl⟩
  have hq1 : 0 ≤ q ∧ q ≤ 100000000000 := by
    rw [← hq, Int.tdiv_eq_ediv_of_nonneg (by omega)]
    omega
  have HR2 : Hid (R = q + 1) := by show _ = _; rw [HR.out, hq]
  obtain ⟨hq1, hq2⟩ := hq1
  clear x HR
  by_cases h0 : (q + 1).tmod 4 = 0
  · have h00 : ((q + 1).tmod 4 != 0) = false := by simp [h0]
    cases hA : A with
    | nil =>
      rw [hA] at C1 HS
      have HS2 : Hid (so = none) := by show _ = _; rw [HS.out]; split <;> simp
      rw [HS2.out]
      clear HS HS2
      go_enter Try.func30, Try.ntmps30
      go_wp2_with fail
      go_region_with (go_at_call 16; refine (C1.out).mono ?_; clear C1; rintro e w1 ⟨a, c, rfl, h1, hb⟩; have HB := hidI hb; clear h1 hb)
      go_wp2_with fail
      go_ret2
      exact ⟨rfl, HB.out⟩
    | cons k0 A0 =>
      have hpos : 0 < A.length := by rw [hA]; simp
      rw [← hA] at *
      clear hA
      obtain ⟨j, hj⟩ : ∃ j : Nat, ((q + 1).tdiv 4).tmod (A.length : Int) = j := ⟨(((q + 1).tdiv 4).tmod (A.length : Int)).toNat, by
        have : 0 ≤ ((q + 1).tdiv 4).tmod (A.length : Int) := Int.tmod_nonneg _ (Int.tdiv_nonneg (by omega) (by omega))
        omega⟩
      have hjl : j < A.length := by
        have : ((q + 1).tdiv 4).tmod (A.length : Int) < A.length := Int.tmod_lt_of_pos _ (by omega)
        omega
      obtain ⟨k, hk⟩ : ∃ k, A[j]? = some k := ⟨A[j], List.getElem?_eq_getElem hjl⟩
      have HS2 : Hid (so = some k) := by
        show _ = _
        rw [HS.out, HR2.out, if_neg (by simp [h0]), hj]
        exact hk
      rw [HS2.out]
      have HK : Hid (∀ w1 a, RS lyI w1 a A → ∃ b off, a = some ⟨b, off, none⟩ ∧ w1.cell? ⟨b, off + j, none⟩ = some (.int .i64 k)) := fun w1 a h => by
        obtain ⟨b, off, e1, _, e3⟩ := h.at1 hk
        exact ⟨b, off, e1, e3⟩
      obtain ⟨r, hr⟩ : ∃ r, (q + 1).tdiv 4 = r := ⟨_, rfl⟩
      obtain ⟨hr1, hr2⟩ : 0 ≤ r ∧ r ≤ 100000000001 := by
        rw [← hr, Int.tdiv_eq_ediv_of_nonneg (by omega)]
        omega
      rw [hr] at hj
      have hne : (A.length : Int) ≠ 0 := by omega
      have hne2 : ((A.length : Int) == 0) = false := beq_eq_false_iff_ne.2 hne
      have hji : (j : Int) < (A.length : Int) := by omega
      clear HS HS2 HR2 hk
      go_enter Try.func30, Try.ntmps30
      go_wp2_with fail
      go_region_with (go_at_call 16; refine (C1.out).mono ?_; clear C1; rintro e w1 ⟨a, c, rfl, h1, hb⟩; obtain ⟨b, off, rfl, k1⟩ := HK.out _ _ h1; have HB := hidI hb; clear h1 hb HK)
      go_wp2_with fail
      go_ret2
      exact ⟨rfl, HB.out⟩
  · have h00 : ((q + 1).tmod 4 != 0) = true := by simp [h0]
    have h0e : ¬ (q + 1) % 4 = 0 := by rw [← Int.tmod_eq_emod_of_nonneg (by omega)]; exact h0
    have h0f : ((q + 1) % 4 == 0) = false := by simp [h0e]
    have h0g : ((q + 1) % 4 != 0) = true := by simp [h0e]
    have HS2 : Hid (so = none) := by show _ = _; rw [HS.out, HR2.out, if_pos h0]
    rw [HS2.out]
    clear HS HS2
    go_enter Try.func30, Try.ntmps30
    go_wp2_with fail
    go_region_with (go_at_call 16; refine (C1.out).mono ?_; clear C1; rintro e w1 ⟨a, c, rfl, h1, hb⟩; have HB := hidI hb; clear h1 hb)
    go_wp2_with fail
    go_ret2
    exact ⟨rfl, HB.out⟩
/-- the line has turned -/
theorem S0.line {w W : World} {p : Nat} {P : Pl} {B B' : Nat → Prop} {N : Nat} {s : SO.Sc} (x : S0 w p P B N s W) (la : Option Addr) (lc : Nat) (L : List Int) (hr : RT lyI tIn W la L) (hl : L.length ≤ 6) (hl1 : ∀ k ∈ L, 1 ≤ k ∧ k ≤ 6) (hB : ∀ k, B k → B' k) (Bn : ∀ g off, la = some ⟨g, off, none⟩ → B' g) (Bo : ∀ k, B' k → B k ∨ (w.heap.size ≤ k ∧ k < W.heap.size)) (hlc : L.length ≤ lc) :
    S0 w p { P with la := la, lc := lc } B' N { s with line := L } (W.setCell ⟨p, 12, none⟩ (.slice la L.length lc)) := by
  have nm := x.num
  exact x.put (P' := { P with la := la, lc := lc }) (Nat.le_refl N) (Of1.of_grown (grown_setCell W p 12 _)) (by rw [heap_setCell_own x.row]; rfl) rfl rfl rfl rfl rfl rfl ⟨nm.n1, nm.n2, nm.q1, nm.q2, nm.s1, nm.s2, nm.m1, nm.m2, nm.m3, nm.p1, nm.p2, nm.ok, nm.el, hl, hl1, nm.hh⟩ hr x.hp x.er hB Bn (fun g off e => hB g (x.Ba g off e)) (fun g e => hB g (x.Be g e)) Bo hlc
theorem RT.tail {W : World} {b off : Nat} {x : Int} {L : List Int} (h : RT lyI tIn W (some ⟨b, off, none⟩) (x :: L)) : RT lyI tIn W (some ⟨b, off + 1, none⟩) L := fun i y hy => by
  obtain ⟨b', off', C, e1, e2, e3⟩ := h (i + 1) y hy
  cases e1
  refine ⟨b, off + 1, C, rfl, e2, ?_⟩
  have : off + (i + 1) * lyI.k = off + 1 + i * lyI.k := by show off + (i + 1) * 1 = off + 1 + i * 1; omega
  rw [← this]; exact e3
theorem mem_pres {s : SO.Sc} {N : Nat} (x : Num s N) {k : Int} (h : k ∈ K.pres s.f) : 1 ≤ k ∧ k ≤ 6 := by
  unfold K.pres at h
  obtain ⟨m, hm, rfl⟩ := List.mem_map.1 h
  have := (K.all_of x.ok (List.mem_filter.1 hm).1).2
  exact ⟨this.1, this.2.1⟩
theorem oth_len (s : SO.Sc) : (SO.oth s).length ≤ 6 := Nat.le_trans (List.length_filter_le _ _) (pres_len s.f)
theorem mix_len : ∀ (n : Nat) (l : List Int) (d : Int), (SO.mixN n l d).length = l.length
  | 0, l, d => rfl
  | n + 1, l, d => by
    show (SO.mixN n _ _).length = _
    rw [mix_len n]
    simp [SO.swp]
theorem swp_mem {l : List Int} {i j : Nat} (hi : i < l.length) (hj : j < l.length) : ∀ k ∈ SO.swp l i j, k ∈ l := fun k hk => by
  unfold SO.swp at hk
  rcases List.mem_or_eq_of_mem_set hk with h | h
  · rcases List.mem_or_eq_of_mem_set h with h | h
    · exact h
    · rw [h, List.getD_eq_getElem?_getD, List.getElem?_eq_getElem hj]; exact List.getElem_mem hj
  · rw [h, List.getD_eq_getElem?_getD, List.getElem?_eq_getElem hi]; exact List.getElem_mem hi
theorem mixN_mem : ∀ (n : Nat) (l : List Int) (d : Int), n < l.length ∨ n = 0 → ∀ k ∈ SO.mixN n l d, k ∈ l
  | 0, l, d, _, k, hk => hk
  | n + 1, l, d, h, k, hk => by
    have hn : n + 1 < l.length := by rcases h with h | h <;> omega
    have hj : (d % ((n : Int) + 2)).toNat < l.length := by
      have := Int.emod_lt_of_pos d (b := (n : Int) + 2) (by omega)
      omega
    have h2 := mixN_mem n (SO.swp l (n + 1) (d % ((n : Int) + 2)).toNat) (d.tdiv ((n : Int) + 2)) (Or.inl (by simp [SO.swp]; omega)) k hk
    exact swp_mem hn hj k h2
theorem mix_mem (l : List Int) (d : Int) : ∀ k ∈ SO.mix l d, k ∈ l := fun k hk => by
  unfold SO.mix at hk
  refine mixN_mem _ l d ?_ k hk
  omega
end Go.Proofs.Ytebmgajijjhinaa
