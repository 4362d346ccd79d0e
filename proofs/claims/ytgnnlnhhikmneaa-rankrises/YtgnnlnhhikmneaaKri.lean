/- The walk of the law RankRises. -/
import Derived.Test.YtgnnlnhhikmneaaKst
namespace Go.Proofs.Ytgnnlnhhikmneaa
open Go.RowKit Go.Maps
set_option linter.unusedVariables false
set_option linter.unusedSimpArgs false

theorem tak_not {f : K.Vw} {m : K.Me} (h : K.news f m = false) : (K.tak f [m]).length = 0 := by
  show (if K.news f m = true then [m] else []).length = 0
  rw [h]; rfl
theorem tak_yes {f : K.Vw} {m : K.Me} (h : K.news f m = true) : (K.tak f [m]).length = 1 := by
  show (if K.news f m = true then [m] else []).length = 1
  rw [h]; rfl
theorem gv_yes {f : K.Vw} {m : K.Me} (h : K.news f m = true) : gv (K.stp f m) m.1 = m ∧ (K.stp f m m.1).isSome = true := by
  rw [stp_yes h]
  unfold gv
  simp
theorem news_again {f : K.Vw} {m : K.Me} (h : K.news f m = true) : K.news (K.stp f m) m = false := by
  rw [news_eq, (gv_yes h).1, (gv_yes h).2, K.above_irr]
  simp
/-- where the list of the law lies -/
def LP (w : World) (a : Option Addr) (l : List K.Me) : Prop := RS lyM w a l
set_option maxRecDepth 8000 in
set_option maxHeartbeats 64000000 in
theorem rankRises_walk (w : World) (l : List K.Me) (a : Option Addr) (c : Nat) (hv : RS lyM w a l) (hn : l.length ≤ 9223372036854775807) (hok : ∀ m ∈ l, i64 m.1) :
    Calls Try.prog 5 #[.slice a l.length c] w fun e w' => e = .returned (.bool true) ∧ Bl w w' := by
  have C0 : Hid (Calls Try.prog 8 #[] w fun e w' => e = .returned (.bool true) ∧ Bl w w') := awake_10 w
  by_cases h1 : 100 < l.length
  · go_enter Try.func5, Try.ntmps5
    go_wp2_with (go_at_call 8; refine C0.out.mono ?_; clear C0; rintro e w1 ⟨rfl, HB⟩)
    go_ret
    exact ⟨rfl, HB⟩
  have C1 : Hid (∀ W, Bl w W → Calls Try.prog 9 #[.slice none 0 0] W fun e w' => ∃ q b, e = .returned (.pointer (some ⟨q, 0, none⟩)) ∧ RT W q b K.e0 0 [] w') := fun W h => (New_x W [] none 0 (RS.nil _ _ _) (by simp) (fun m hm => by simp at hm)).mono fun e w' ⟨q, b, h1, h2⟩ => ⟨q, b, h1, h2, fun p hp => by simp at hp⟩
  have HV : Hid (RS lyM w a l) := hv
  have HO : Hid (∀ m ∈ l, i64 m.1) := hok
  obtain ⟨fs, hum⟩ := undMe
  clear hv hok
  go_enter Try.func5, Try.ntmps5
  go_wp2_with (first
    | (go_at_call 8; refine C0.out.mono ?_; clear C0; rintro e w1 ⟨rfl, HB⟩)
    | (go_at_call 9; refine (C1.out _ HB).mono ?_; clear C1; rintro e w2 ⟨q, b, rfl, HX⟩))
  have H0 : Hid (RT w1 q b K.e0 0 [] w2) := HX
  have H1 : Hid (Bl w w1) := HB
  clear HX HB
  go_loopw [4, 5, 6, 7, 8, 9, 10, 11] (fun u4 u5 u6 u7 u8 u9 u10 u11 wr => ∃ k : Nat, k ≤ l.length ∧ u4 = .int .i64 k ∧ RT w1 q b (K.mrg K.e0 (l.take k)) (2 * k) [] wr) (fun u4 _ _ _ _ _ _ _ _ => l.length - (intOf u4).toNat)
  case atStart => exact ⟨0, Nat.zero_le _, rfl, H0.out⟩
  case round =>
    obtain ⟨k, hk, rfl, hx⟩ := hrel
    clear H0
    by_cases hlt : k < l.length
    · obtain ⟨m, hm⟩ : ∃ m, l[k]? = some m := ⟨l[k], List.getElem?_eq_getElem hlt⟩
      obtain ⟨b2, off, rfl, hb2, hrg⟩ := HV.out.bl (H1.out.step hx.vt.bl) k m hm
      have hmi := HO.out m (List.mem_of_getElem? hm)
      have HM : Hid (K.mrg K.e0 (l.take (k + 1)) = K.stp (K.mrg K.e0 (l.take k)) m) := K.mrg_take hm
      obtain ⟨F, hF⟩ : ∃ F, K.mrg K.e0 (l.take k) = F := ⟨_, rfl⟩
      rw [hF] at HM hx
      have HR : Hid (wr.rangeAt b2 (off + k * 3) [.int .i64 m.1, .int .i64 m.2.1, .int .i64 m.2.2]) := hrg
      have HX0 := hx.new m
      have HN := news_eq F m
      obtain ⟨old, hold⟩ : ∃ x, gv F m.1 = x := ⟨_, rfl⟩
      obtain ⟨G, hG⟩ : ∃ G, K.stp F m = G := ⟨_, rfl⟩
      have HM2 : Hid (∀ W N bx, RT w1 q b G N bx W → N ≤ 2 * (k + 1) → RT w1 q b (K.mrg K.e0 (l.take (k + 1))) (2 * (k + 1)) [] W) := fun W N bx h hN => by
        rw [HM.out, hG]
        exact ⟨h.vt.more hN, fun p hp => by simp at hp⟩
      have heq1 := fun W => eqMe m m W
      have heq2 := fun W => eqMe old old W
      clear hx hF hm hrg HV HO HM
      rw [decide_eq_true rfl] at heq1
      rw [decide_eq_true rfl] at heq2
      -- four ways
      cases hgd : K.good m with
      | false =>
        have hnw : K.news F m = false := by rw [HN, hgd]; rfl
        have hGF : G = F := by rw [← hG]; exact stp_no hnw
        cases hy : (F m.1).isSome with
        | false =>
          have C1 : Hid (∀ W N bx, RT w1 q b F N bx W → Calls Try.prog 22 #[.pointer (some ⟨q, 0, none⟩), .int .i64 m.1] W fun e w' => e = .returned (.tuple #[.agg #[.int .i64 old.1, .int .i64 old.2.1, .int .i64 old.2.2], .bool false]) ∧ RT w1 q b F N bx w') := fun W N bx h => h.get m.1 hmi old _ hold hy
          have C2 : Hid (∀ (W : World) N bx (n : Nat), n = W.heap.size → N ≤ 100000 → RT w1 q b F N bx W → Calls Try.prog 11 #[.pointer (some ⟨q, 0, none⟩), .slice (some ⟨n, 0, none⟩) 1 1] (W.alloc (.cells #[.int .i64 m.1, .int .i64 m.2.1, .int .i64 m.2.2] 28)) fun e w' => ∃ a' c', e = .returned (.slice a' 0 c') ∧ RT w1 q b G (N + 1) bx w') := fun W N bx n hn hN h => h.merge1 m n hn hN hmi _ _ (tak_not hnw) hG
          have C3 : Hid (∀ W N bx, RT w1 q b G N bx W → Calls Try.prog 22 #[.pointer (some ⟨q, 0, none⟩), .int .i64 m.1] W fun e w' => e = .returned (.tuple #[.agg #[.int .i64 old.1, .int .i64 old.2.1, .int .i64 old.2.2], .bool false]) ∧ RT w1 q b G N bx w') := fun W N bx h => h.get m.1 hmi old _ (by rw [hGF]; exact hold) (by rw [hGF]; exact hy)
          have C4 : Hid (∀ W N bx, RT w1 q b G N bx W → Calls Try.prog 18 #[.agg #[.int .i64 m.1, .int .i64 m.2.1, .int .i64 m.2.2]] W fun e w' => e = .returned (.bool false) ∧ RT w1 q b G N bx w') := fun W N bx h => h.good m _ hgd
          clear hgd hy hnw HN hold hG hGF
          obtain ⟨m0, m1, m2⟩ := m
          obtain ⟨o0, o1, o2⟩ := old
          simp only at *
          go_wp2_with (first
            | (refine wpList_load_mid rfl 28 _ rfl b2 (off + k * 3) rfl [.int .i64 m0, .int .i64 m1, .int .i64 m2] _ HR.out hum rfl infoMe ?_; clear HR)
            | (go_at_call 22; refine (C1.out _ _ _ HX0).mono ?_; clear C1 HX0; rintro e W1 ⟨rfl, HT0⟩; have HT := HT0.new (o0, o1, o2); clear HT0; simp only at HT; have R5 := (HT.bx (wr.heap.size, (m0, m1, m2)) (by simp)).r; have N5 := (cells3 (HT.bx (wr.heap.size, (m0, m1, m2)) (by simp))).1; simp only at R5 N5; have R6 := (HT.bx (W1.heap.size, (o0, o1, o2)) (by simp)).r; simp only at R6)
            | (go_at_call 11; refine (C2.out _ _ _ _ (by simp) (by omega) HT).mono ?_; clear C2 HT R5 R6 N5; rintro e W2 ⟨a2, c2, rfl, HT⟩; have R5 := (HT.bx (wr.heap.size, (m0, m1, m2)) (by simp)).r; have N5 := (cells3 (HT.bx (wr.heap.size, (m0, m1, m2)) (by simp))).1; simp only at R5 N5; have R6 := (HT.bx (W1.heap.size, (o0, o1, o2)) (by simp)).r; simp only at R6)
            | (go_at_call 22; refine (C3.out _ _ _ HT).mono ?_; clear C3 HT R5 R6 N5; rintro e W3 ⟨rfl, HT0⟩; have HT := HT0.new (o0, o1, o2); clear HT0; simp only at HT; have R5 := (HT.bx (wr.heap.size, (m0, m1, m2)) (by simp)).r; have N5 := (cells3 (HT.bx (wr.heap.size, (m0, m1, m2)) (by simp))).1; simp only at R5 N5; have R6 := (HT.bx (W1.heap.size, (o0, o1, o2)) (by simp)).r; simp only at R6; have R9 := (HT.bx (W3.heap.size, (o0, o1, o2)) (by simp)).r; simp only at R9)
            | (go_at_call 18; refine (C4.out _ _ _ HT).mono ?_; clear C4 HT R5 R6 R9 N5; rintro e W4 ⟨rfl, HT⟩; have R5 := (HT.bx (wr.heap.size, (m0, m1, m2)) (by simp)).r; have N5 := (cells3 (HT.bx (wr.heap.size, (m0, m1, m2)) (by simp))).1; simp only at R5 N5; have R6 := (HT.bx (W1.heap.size, (o0, o1, o2)) (by simp)).r; simp only at R6; have R9 := (HT.bx (W3.heap.size, (o0, o1, o2)) (by simp)).r; simp only at R9)
            | (refine wl_midG rfl 28 _ rfl wr.heap.size 0 rfl [.int .i64 m0, .int .i64 m1, .int .i64 m2] _ R5 hum rfl infoMe ?_)
            | (refine wl_midG rfl 28 _ rfl W1.heap.size 0 rfl [.int .i64 o0, .int .i64 o1, .int .i64 o2] _ R6 hum rfl infoMe ?_)
            | (refine wl_midG rfl 28 _ rfl W3.heap.size 0 rfl [.int .i64 o0, .int .i64 o1, .int .i64 o2] _ R9 hum rfl infoMe ?_))
          go_roundw
          case rel => exact ⟨k + 1, by omega, by go_num, HM2.out _ _ _ HT (by omega)⟩
          case measure => simp [intOf]; omega
        | true =>
          have C1 : Hid (∀ W N bx, RT w1 q b F N bx W → Calls Try.prog 22 #[.pointer (some ⟨q, 0, none⟩), .int .i64 m.1] W fun e w' => e = .returned (.tuple #[.agg #[.int .i64 old.1, .int .i64 old.2.1, .int .i64 old.2.2], .bool true]) ∧ RT w1 q b F N bx w') := fun W N bx h => h.get m.1 hmi old _ hold hy
          have C2 : Hid (∀ (W : World) N bx (n : Nat), n = W.heap.size → N ≤ 100000 → RT w1 q b F N bx W → Calls Try.prog 11 #[.pointer (some ⟨q, 0, none⟩), .slice (some ⟨n, 0, none⟩) 1 1] (W.alloc (.cells #[.int .i64 m.1, .int .i64 m.2.1, .int .i64 m.2.2] 28)) fun e w' => ∃ a' c', e = .returned (.slice a' 0 c') ∧ RT w1 q b G (N + 1) bx w') := fun W N bx n hn hN h => h.merge1 m n hn hN hmi _ _ (tak_not hnw) hG
          have C3 : Hid (∀ W N bx, RT w1 q b G N bx W → Calls Try.prog 22 #[.pointer (some ⟨q, 0, none⟩), .int .i64 m.1] W fun e w' => e = .returned (.tuple #[.agg #[.int .i64 old.1, .int .i64 old.2.1, .int .i64 old.2.2], .bool true]) ∧ RT w1 q b G N bx w') := fun W N bx h => h.get m.1 hmi old _ (by rw [hGF]; exact hold) (by rw [hGF]; exact hy)
          have C4 : Hid (∀ W N bx, RT w1 q b G N bx W → Calls Try.prog 18 #[.agg #[.int .i64 m.1, .int .i64 m.2.1, .int .i64 m.2.2]] W fun e w' => e = .returned (.bool false) ∧ RT w1 q b G N bx w') := fun W N bx h => h.good m _ hgd
          clear hgd hy hnw HN hold hG hGF
          obtain ⟨m0, m1, m2⟩ := m
          obtain ⟨o0, o1, o2⟩ := old
          simp only at *
          go_wp2_with (first
            | (refine wpList_load_mid rfl 28 _ rfl b2 (off + k * 3) rfl [.int .i64 m0, .int .i64 m1, .int .i64 m2] _ HR.out hum rfl infoMe ?_; clear HR)
            | (go_at_call 22; refine (C1.out _ _ _ HX0).mono ?_; clear C1 HX0; rintro e W1 ⟨rfl, HT0⟩; have HT := HT0.new (o0, o1, o2); clear HT0; simp only at HT; have R5 := (HT.bx (wr.heap.size, (m0, m1, m2)) (by simp)).r; have N5 := (cells3 (HT.bx (wr.heap.size, (m0, m1, m2)) (by simp))).1; simp only at R5 N5; have R6 := (HT.bx (W1.heap.size, (o0, o1, o2)) (by simp)).r; simp only at R6)
            | (go_at_call 11; refine (C2.out _ _ _ _ (by simp) (by omega) HT).mono ?_; clear C2 HT R5 R6 N5; rintro e W2 ⟨a2, c2, rfl, HT⟩; have R5 := (HT.bx (wr.heap.size, (m0, m1, m2)) (by simp)).r; have N5 := (cells3 (HT.bx (wr.heap.size, (m0, m1, m2)) (by simp))).1; simp only at R5 N5; have R6 := (HT.bx (W1.heap.size, (o0, o1, o2)) (by simp)).r; simp only at R6)
            | (go_at_call 22; refine (C3.out _ _ _ HT).mono ?_; clear C3 HT R5 R6 N5; rintro e W3 ⟨rfl, HT0⟩; have HT := HT0.new (o0, o1, o2); clear HT0; simp only at HT; have R5 := (HT.bx (wr.heap.size, (m0, m1, m2)) (by simp)).r; have N5 := (cells3 (HT.bx (wr.heap.size, (m0, m1, m2)) (by simp))).1; simp only at R5 N5; have R6 := (HT.bx (W1.heap.size, (o0, o1, o2)) (by simp)).r; simp only at R6; have R9 := (HT.bx (W3.heap.size, (o0, o1, o2)) (by simp)).r; simp only at R9)
            | (go_at_call 18; refine (C4.out _ _ _ HT).mono ?_; clear C4 HT R5 R6 R9 N5; rintro e W4 ⟨rfl, HT⟩; have R5 := (HT.bx (wr.heap.size, (m0, m1, m2)) (by simp)).r; have N5 := (cells3 (HT.bx (wr.heap.size, (m0, m1, m2)) (by simp))).1; simp only at R5 N5; have R6 := (HT.bx (W1.heap.size, (o0, o1, o2)) (by simp)).r; simp only at R6; have R9 := (HT.bx (W3.heap.size, (o0, o1, o2)) (by simp)).r; simp only at R9)
            | (refine wl_midG rfl 28 _ rfl wr.heap.size 0 rfl [.int .i64 m0, .int .i64 m1, .int .i64 m2] _ R5 hum rfl infoMe ?_)
            | (refine wl_midG rfl 28 _ rfl W1.heap.size 0 rfl [.int .i64 o0, .int .i64 o1, .int .i64 o2] _ R6 hum rfl infoMe ?_)
            | (refine wl_midG rfl 28 _ rfl W3.heap.size 0 rfl [.int .i64 o0, .int .i64 o1, .int .i64 o2] _ R9 hum rfl infoMe ?_))
          go_roundw
          case rel => exact ⟨k + 1, by omega, by go_num, HM2.out _ _ _ HT (by omega)⟩
          case measure => simp [intOf]; omega
      | true =>
        cases hy : (F m.1).isSome with
        | false =>
          have hnw : K.news F m = true := by rw [HN, hgd, hy]; rfl
          have C1 : Hid (∀ W N bx, RT w1 q b F N bx W → Calls Try.prog 22 #[.pointer (some ⟨q, 0, none⟩), .int .i64 m.1] W fun e w' => e = .returned (.tuple #[.agg #[.int .i64 old.1, .int .i64 old.2.1, .int .i64 old.2.2], .bool false]) ∧ RT w1 q b F N bx w') := fun W N bx h => h.get m.1 hmi old _ hold hy
          have C2 : Hid (∀ (W : World) N bx (n : Nat), n = W.heap.size → N ≤ 100000 → RT w1 q b F N bx W → Calls Try.prog 11 #[.pointer (some ⟨q, 0, none⟩), .slice (some ⟨n, 0, none⟩) 1 1] (W.alloc (.cells #[.int .i64 m.1, .int .i64 m.2.1, .int .i64 m.2.2] 28)) fun e w' => ∃ a' c', e = .returned (.slice a' 1 c') ∧ RT w1 q b G (N + 1) bx w') := fun W N bx n hn hN h => h.merge1 m n hn hN hmi _ _ (tak_yes hnw) hG
          have C3 : Hid (∀ W N bx, RT w1 q b G N bx W → Calls Try.prog 22 #[.pointer (some ⟨q, 0, none⟩), .int .i64 m.1] W fun e w' => e = .returned (.tuple #[.agg #[.int .i64 m.1, .int .i64 m.2.1, .int .i64 m.2.2], .bool true]) ∧ RT w1 q b G N bx w') := fun W N bx h => h.get m.1 hmi m _ (by rw [← hG]; exact (gv_yes hnw).1) (by rw [← hG]; exact (gv_yes hnw).2)
          have C4 : Hid (∀ W N bx, RT w1 q b G N bx W → Calls Try.prog 18 #[.agg #[.int .i64 m.1, .int .i64 m.2.1, .int .i64 m.2.2]] W fun e w' => e = .returned (.bool true) ∧ RT w1 q b G N bx w') := fun W N bx h => h.good m _ hgd
          have C6 : Hid (∀ (W : World) N bx (n : Nat), n = W.heap.size → N ≤ 100000 → RT w1 q b G N bx W → Calls Try.prog 11 #[.pointer (some ⟨q, 0, none⟩), .slice (some ⟨n, 0, none⟩) 1 1] (W.alloc (.cells #[.int .i64 m.1, .int .i64 m.2.1, .int .i64 m.2.2] 28)) fun e w' => ∃ a' c', e = .returned (.slice a' 0 c') ∧ RT w1 q b G (N + 1) bx w') := fun W N bx n hn hN h => h.merge1 m n hn hN hmi _ _ (by rw [← hG]; exact tak_not (news_again hnw)) (by rw [← hG]; exact stp_no (news_again hnw))
          clear hgd hy hnw HN hold hG
          obtain ⟨m0, m1, m2⟩ := m
          obtain ⟨o0, o1, o2⟩ := old
          simp only at *
          go_wp2_with (first
            | (refine wpList_load_mid rfl 28 _ rfl b2 (off + k * 3) rfl [.int .i64 m0, .int .i64 m1, .int .i64 m2] _ HR.out hum rfl infoMe ?_; clear HR)
            | (go_at_call 22; refine (C1.out _ _ _ HX0).mono ?_; clear C1 HX0; rintro e W1 ⟨rfl, HT0⟩; have HT := HT0.new (o0, o1, o2); clear HT0; simp only at HT; have R5 := (HT.bx (wr.heap.size, (m0, m1, m2)) (by simp)).r; have N5 := (cells3 (HT.bx (wr.heap.size, (m0, m1, m2)) (by simp))).1; simp only at R5 N5; have R6 := (HT.bx (W1.heap.size, (o0, o1, o2)) (by simp)).r; simp only at R6)
            | (go_at_call 11; refine (C2.out _ _ _ _ (by simp) (by omega) HT).mono ?_; clear C2 HT R5 R6 N5; rintro e W2 ⟨a2, c2, rfl, HT⟩; have R5 := (HT.bx (wr.heap.size, (m0, m1, m2)) (by simp)).r; have N5 := (cells3 (HT.bx (wr.heap.size, (m0, m1, m2)) (by simp))).1; simp only at R5 N5; have R6 := (HT.bx (W1.heap.size, (o0, o1, o2)) (by simp)).r; simp only at R6)
            | (go_at_call 22; refine (C3.out _ _ _ HT).mono ?_; clear C3 HT R5 R6 N5; rintro e W3 ⟨rfl, HT0⟩; have HT := HT0.new (m0, m1, m2); clear HT0; simp only at HT; have R5 := (HT.bx (wr.heap.size, (m0, m1, m2)) (by simp)).r; have N5 := (cells3 (HT.bx (wr.heap.size, (m0, m1, m2)) (by simp))).1; simp only at R5 N5; have R6 := (HT.bx (W1.heap.size, (o0, o1, o2)) (by simp)).r; simp only at R6; have R9 := (HT.bx (W3.heap.size, (m0, m1, m2)) (by simp)).r; simp only at R9)
            | (go_at_call 18; refine (C4.out _ _ _ HT).mono ?_; clear C4 HT R5 R6 R9 N5; rintro e W4 ⟨rfl, HT⟩; have R5 := (HT.bx (wr.heap.size, (m0, m1, m2)) (by simp)).r; have N5 := (cells3 (HT.bx (wr.heap.size, (m0, m1, m2)) (by simp))).1; simp only at R5 N5; have R6 := (HT.bx (W1.heap.size, (o0, o1, o2)) (by simp)).r; simp only at R6; have R9 := (HT.bx (W3.heap.size, (m0, m1, m2)) (by simp)).r; simp only at R9)
            | (go_at_call 11; refine (C6.out _ _ _ _ (by simp) (by omega) HT).mono ?_; clear C6 HT R5 R6 R9 N5; rintro e W6 ⟨a6, c6, rfl, HT⟩)
            | (refine wl_midG rfl 28 _ rfl wr.heap.size 0 rfl [.int .i64 m0, .int .i64 m1, .int .i64 m2] _ R5 hum rfl infoMe ?_)
            | (refine wl_midG rfl 28 _ rfl W1.heap.size 0 rfl [.int .i64 o0, .int .i64 o1, .int .i64 o2] _ R6 hum rfl infoMe ?_)
            | (refine wl_midG rfl 28 _ rfl W3.heap.size 0 rfl [.int .i64 m0, .int .i64 m1, .int .i64 m2] _ R9 hum rfl infoMe ?_))
          go_roundw
          case rel => exact ⟨k + 1, by omega, by go_num, HM2.out _ _ _ HT (by omega)⟩
          case measure => simp [intOf]; omega
        | true =>
          cases hab : K.above m old with
          | true =>
            have hnw : K.news F m = true := by rw [HN, hgd, hy, hold, hab]; rfl
            have C1 : Hid (∀ W N bx, RT w1 q b F N bx W → Calls Try.prog 22 #[.pointer (some ⟨q, 0, none⟩), .int .i64 m.1] W fun e w' => e = .returned (.tuple #[.agg #[.int .i64 old.1, .int .i64 old.2.1, .int .i64 old.2.2], .bool true]) ∧ RT w1 q b F N bx w') := fun W N bx h => h.get m.1 hmi old _ hold hy
            have C2 : Hid (∀ (W : World) N bx (n : Nat), n = W.heap.size → N ≤ 100000 → RT w1 q b F N bx W → Calls Try.prog 11 #[.pointer (some ⟨q, 0, none⟩), .slice (some ⟨n, 0, none⟩) 1 1] (W.alloc (.cells #[.int .i64 m.1, .int .i64 m.2.1, .int .i64 m.2.2] 28)) fun e w' => ∃ a' c', e = .returned (.slice a' 1 c') ∧ RT w1 q b G (N + 1) bx w') := fun W N bx n hn hN h => h.merge1 m n hn hN hmi _ _ (tak_yes hnw) hG
            have C3 : Hid (∀ W N bx, RT w1 q b G N bx W → Calls Try.prog 22 #[.pointer (some ⟨q, 0, none⟩), .int .i64 m.1] W fun e w' => e = .returned (.tuple #[.agg #[.int .i64 m.1, .int .i64 m.2.1, .int .i64 m.2.2], .bool true]) ∧ RT w1 q b G N bx w') := fun W N bx h => h.get m.1 hmi m _ (by rw [← hG]; exact (gv_yes hnw).1) (by rw [← hG]; exact (gv_yes hnw).2)
            have C4 : Hid (∀ W N bx, RT w1 q b G N bx W → Calls Try.prog 18 #[.agg #[.int .i64 m.1, .int .i64 m.2.1, .int .i64 m.2.2]] W fun e w' => e = .returned (.bool true) ∧ RT w1 q b G N bx w') := fun W N bx h => h.good m _ hgd
            have C5 : Hid (∀ W N bx, RT w1 q b G N bx W → Calls Try.prog 20 #[.agg #[.int .i64 m.1, .int .i64 m.2.1, .int .i64 m.2.2], .agg #[.int .i64 old.1, .int .i64 old.2.1, .int .i64 old.2.2]] W fun e w' => e = .returned (.bool true) ∧ RT w1 q b G N bx w') := fun W N bx h => h.above m old _ hab
            have C6 : Hid (∀ (W : World) N bx (n : Nat), n = W.heap.size → N ≤ 100000 → RT w1 q b G N bx W → Calls Try.prog 11 #[.pointer (some ⟨q, 0, none⟩), .slice (some ⟨n, 0, none⟩) 1 1] (W.alloc (.cells #[.int .i64 m.1, .int .i64 m.2.1, .int .i64 m.2.2] 28)) fun e w' => ∃ a' c', e = .returned (.slice a' 0 c') ∧ RT w1 q b G (N + 1) bx w') := fun W N bx n hn hN h => h.merge1 m n hn hN hmi _ _ (by rw [← hG]; exact tak_not (news_again hnw)) (by rw [← hG]; exact stp_no (news_again hnw))
            clear hgd hy hnw HN hold hG hab
            obtain ⟨m0, m1, m2⟩ := m
            obtain ⟨o0, o1, o2⟩ := old
            simp only at *
            go_wp2_with (first
              | (refine wpList_load_mid rfl 28 _ rfl b2 (off + k * 3) rfl [.int .i64 m0, .int .i64 m1, .int .i64 m2] _ HR.out hum rfl infoMe ?_; clear HR)
              | (go_at_call 22; refine (C1.out _ _ _ HX0).mono ?_; clear C1 HX0; rintro e W1 ⟨rfl, HT0⟩; have HT := HT0.new (o0, o1, o2); clear HT0; simp only at HT; have R5 := (HT.bx (wr.heap.size, (m0, m1, m2)) (by simp)).r; have N5 := (cells3 (HT.bx (wr.heap.size, (m0, m1, m2)) (by simp))).1; simp only at R5 N5; have R6 := (HT.bx (W1.heap.size, (o0, o1, o2)) (by simp)).r; simp only at R6)
              | (go_at_call 11; refine (C2.out _ _ _ _ (by simp) (by omega) HT).mono ?_; clear C2 HT R5 R6 N5; rintro e W2 ⟨a2, c2, rfl, HT⟩; have R5 := (HT.bx (wr.heap.size, (m0, m1, m2)) (by simp)).r; have N5 := (cells3 (HT.bx (wr.heap.size, (m0, m1, m2)) (by simp))).1; simp only at R5 N5; have R6 := (HT.bx (W1.heap.size, (o0, o1, o2)) (by simp)).r; simp only at R6)
              | (go_at_call 22; refine (C3.out _ _ _ HT).mono ?_; clear C3 HT R5 R6 N5; rintro e W3 ⟨rfl, HT0⟩; have HT := HT0.new (m0, m1, m2); clear HT0; simp only at HT; have R5 := (HT.bx (wr.heap.size, (m0, m1, m2)) (by simp)).r; have N5 := (cells3 (HT.bx (wr.heap.size, (m0, m1, m2)) (by simp))).1; simp only at R5 N5; have R6 := (HT.bx (W1.heap.size, (o0, o1, o2)) (by simp)).r; simp only at R6; have R9 := (HT.bx (W3.heap.size, (m0, m1, m2)) (by simp)).r; simp only at R9)
              | (go_at_call 18; refine (C4.out _ _ _ HT).mono ?_; clear C4 HT R5 R6 R9 N5; rintro e W4 ⟨rfl, HT⟩; have R5 := (HT.bx (wr.heap.size, (m0, m1, m2)) (by simp)).r; have N5 := (cells3 (HT.bx (wr.heap.size, (m0, m1, m2)) (by simp))).1; simp only at R5 N5; have R6 := (HT.bx (W1.heap.size, (o0, o1, o2)) (by simp)).r; simp only at R6; have R9 := (HT.bx (W3.heap.size, (m0, m1, m2)) (by simp)).r; simp only at R9)
              | (go_at_call 20; refine (C5.out _ _ _ HT).mono ?_; clear C5 HT R5 R6 R9 N5; rintro e W5 ⟨rfl, HT⟩; have R5 := (HT.bx (wr.heap.size, (m0, m1, m2)) (by simp)).r; have N5 := (cells3 (HT.bx (wr.heap.size, (m0, m1, m2)) (by simp))).1; simp only at R5 N5; have R6 := (HT.bx (W1.heap.size, (o0, o1, o2)) (by simp)).r; simp only at R6; have R9 := (HT.bx (W3.heap.size, (m0, m1, m2)) (by simp)).r; simp only at R9)
              | (go_at_call 11; refine (C6.out _ _ _ _ (by simp) (by omega) HT).mono ?_; clear C6 HT R5 R6 R9 N5; rintro e W6 ⟨a6, c6, rfl, HT⟩)
              | (refine wl_midG rfl 28 _ rfl wr.heap.size 0 rfl [.int .i64 m0, .int .i64 m1, .int .i64 m2] _ R5 hum rfl infoMe ?_)
              | (refine wl_midG rfl 28 _ rfl W1.heap.size 0 rfl [.int .i64 o0, .int .i64 o1, .int .i64 o2] _ R6 hum rfl infoMe ?_)
              | (refine wl_midG rfl 28 _ rfl W3.heap.size 0 rfl [.int .i64 m0, .int .i64 m1, .int .i64 m2] _ R9 hum rfl infoMe ?_))
            go_roundw
            case rel => exact ⟨k + 1, by omega, by go_num, HM2.out _ _ _ HT (by omega)⟩
            case measure => simp [intOf]; omega
          | false =>
            have hnw : K.news F m = false := by rw [HN, hgd, hy, hold, hab]; rfl
            have hGF : G = F := by rw [← hG]; exact stp_no hnw
            have C1 : Hid (∀ W N bx, RT w1 q b F N bx W → Calls Try.prog 22 #[.pointer (some ⟨q, 0, none⟩), .int .i64 m.1] W fun e w' => e = .returned (.tuple #[.agg #[.int .i64 old.1, .int .i64 old.2.1, .int .i64 old.2.2], .bool true]) ∧ RT w1 q b F N bx w') := fun W N bx h => h.get m.1 hmi old _ hold hy
            have C2 : Hid (∀ (W : World) N bx (n : Nat), n = W.heap.size → N ≤ 100000 → RT w1 q b F N bx W → Calls Try.prog 11 #[.pointer (some ⟨q, 0, none⟩), .slice (some ⟨n, 0, none⟩) 1 1] (W.alloc (.cells #[.int .i64 m.1, .int .i64 m.2.1, .int .i64 m.2.2] 28)) fun e w' => ∃ a' c', e = .returned (.slice a' 0 c') ∧ RT w1 q b G (N + 1) bx w') := fun W N bx n hn hN h => h.merge1 m n hn hN hmi _ _ (tak_not hnw) hG
            have C3 : Hid (∀ W N bx, RT w1 q b G N bx W → Calls Try.prog 22 #[.pointer (some ⟨q, 0, none⟩), .int .i64 m.1] W fun e w' => e = .returned (.tuple #[.agg #[.int .i64 old.1, .int .i64 old.2.1, .int .i64 old.2.2], .bool true]) ∧ RT w1 q b G N bx w') := fun W N bx h => h.get m.1 hmi old _ (by rw [hGF]; exact hold) (by rw [hGF]; exact hy)
            have C4 : Hid (∀ W N bx, RT w1 q b G N bx W → Calls Try.prog 18 #[.agg #[.int .i64 m.1, .int .i64 m.2.1, .int .i64 m.2.2]] W fun e w' => e = .returned (.bool true) ∧ RT w1 q b G N bx w') := fun W N bx h => h.good m _ hgd
            have C5 : Hid (∀ W N bx, RT w1 q b G N bx W → Calls Try.prog 20 #[.agg #[.int .i64 m.1, .int .i64 m.2.1, .int .i64 m.2.2], .agg #[.int .i64 old.1, .int .i64 old.2.1, .int .i64 old.2.2]] W fun e w' => e = .returned (.bool false) ∧ RT w1 q b G N bx w') := fun W N bx h => h.above m old _ hab
            have C6 : Hid (∀ (W : World) N bx (n : Nat), n = W.heap.size → N ≤ 100000 → RT w1 q b G N bx W → Calls Try.prog 11 #[.pointer (some ⟨q, 0, none⟩), .slice (some ⟨n, 0, none⟩) 1 1] (W.alloc (.cells #[.int .i64 m.1, .int .i64 m.2.1, .int .i64 m.2.2] 28)) fun e w' => ∃ a' c', e = .returned (.slice a' 0 c') ∧ RT w1 q b G (N + 1) bx w') := fun W N bx n hn hN h => h.merge1 m n hn hN hmi _ _ (by rw [hGF]; exact tak_not hnw) (by rw [hGF]; exact stp_no hnw)
            clear hgd hy hnw HN hold hG hGF hab
            obtain ⟨m0, m1, m2⟩ := m
            obtain ⟨o0, o1, o2⟩ := old
            simp only at *
            go_wp2_with (first
              | (refine wpList_load_mid rfl 28 _ rfl b2 (off + k * 3) rfl [.int .i64 m0, .int .i64 m1, .int .i64 m2] _ HR.out hum rfl infoMe ?_; clear HR)
              | (go_at_call 22; refine (C1.out _ _ _ HX0).mono ?_; clear C1 HX0; rintro e W1 ⟨rfl, HT0⟩; have HT := HT0.new (o0, o1, o2); clear HT0; simp only at HT; have R5 := (HT.bx (wr.heap.size, (m0, m1, m2)) (by simp)).r; have N5 := (cells3 (HT.bx (wr.heap.size, (m0, m1, m2)) (by simp))).1; simp only at R5 N5; have R6 := (HT.bx (W1.heap.size, (o0, o1, o2)) (by simp)).r; simp only at R6)
              | (go_at_call 11; refine (C2.out _ _ _ _ (by simp) (by omega) HT).mono ?_; clear C2 HT R5 R6 N5; rintro e W2 ⟨a2, c2, rfl, HT⟩; have R5 := (HT.bx (wr.heap.size, (m0, m1, m2)) (by simp)).r; have N5 := (cells3 (HT.bx (wr.heap.size, (m0, m1, m2)) (by simp))).1; simp only at R5 N5; have R6 := (HT.bx (W1.heap.size, (o0, o1, o2)) (by simp)).r; simp only at R6)
              | (go_at_call 22; refine (C3.out _ _ _ HT).mono ?_; clear C3 HT R5 R6 N5; rintro e W3 ⟨rfl, HT0⟩; have HT := HT0.new (o0, o1, o2); clear HT0; simp only at HT; have R5 := (HT.bx (wr.heap.size, (m0, m1, m2)) (by simp)).r; have N5 := (cells3 (HT.bx (wr.heap.size, (m0, m1, m2)) (by simp))).1; simp only at R5 N5; have R6 := (HT.bx (W1.heap.size, (o0, o1, o2)) (by simp)).r; simp only at R6; have R9 := (HT.bx (W3.heap.size, (o0, o1, o2)) (by simp)).r; simp only at R9)
              | (go_at_call 18; refine (C4.out _ _ _ HT).mono ?_; clear C4 HT R5 R6 R9 N5; rintro e W4 ⟨rfl, HT⟩; have R5 := (HT.bx (wr.heap.size, (m0, m1, m2)) (by simp)).r; have N5 := (cells3 (HT.bx (wr.heap.size, (m0, m1, m2)) (by simp))).1; simp only at R5 N5; have R6 := (HT.bx (W1.heap.size, (o0, o1, o2)) (by simp)).r; simp only at R6; have R9 := (HT.bx (W3.heap.size, (o0, o1, o2)) (by simp)).r; simp only at R9)
              | (go_at_call 20; refine (C5.out _ _ _ HT).mono ?_; clear C5 HT R5 R6 R9 N5; rintro e W5 ⟨rfl, HT⟩; have R5 := (HT.bx (wr.heap.size, (m0, m1, m2)) (by simp)).r; have N5 := (cells3 (HT.bx (wr.heap.size, (m0, m1, m2)) (by simp))).1; simp only at R5 N5; have R6 := (HT.bx (W1.heap.size, (o0, o1, o2)) (by simp)).r; simp only at R6; have R9 := (HT.bx (W3.heap.size, (o0, o1, o2)) (by simp)).r; simp only at R9)
              | (go_at_call 11; refine (C6.out _ _ _ _ (by simp) (by omega) HT).mono ?_; clear C6 HT R5 R6 R9 N5; rintro e W6 ⟨a6, c6, rfl, HT⟩)
              | (refine wl_midG rfl 28 _ rfl wr.heap.size 0 rfl [.int .i64 m0, .int .i64 m1, .int .i64 m2] _ R5 hum rfl infoMe ?_)
              | (refine wl_midG rfl 28 _ rfl W1.heap.size 0 rfl [.int .i64 o0, .int .i64 o1, .int .i64 o2] _ R6 hum rfl infoMe ?_)
              | (refine wl_midG rfl 28 _ rfl W3.heap.size 0 rfl [.int .i64 o0, .int .i64 o1, .int .i64 o2] _ R9 hum rfl infoMe ?_))
            go_roundw
            case rel => exact ⟨k + 1, by omega, by go_num, HM2.out _ _ _ HT (by omega)⟩
            case measure => simp [intOf]; omega
    · obtain rfl : k = l.length := by omega
      have HX : Hid (Bl w wr) := H1.out.step hx.vt.bl
      clear hx
      have D1 : Hid (∀ W, Bl w W → Calls Try.prog 22 #[.pointer none, .int .i64 1] W fun e w' => e = .returned (.tuple #[.agg #[.int .i64 0, .int .i64 0, .int .i64 0], .bool false]) ∧ Bl w w') := fun W h => (Get_nil 1 W).mono fun e w' ⟨h1, h2⟩ => ⟨h1, h.step h2⟩
      have D2 : Hid (∀ W, Bl w W → Calls Try.prog 11 #[.pointer none, .slice a l.length c] W fun e w' => e = .returned (.slice none 0 0) ∧ Bl w w') := fun W h => (Merge_nil _ W).mono fun e w' ⟨h1, h2⟩ => ⟨h1, h.step h2⟩
      have D3 : Hid (∀ W, Bl w W → Calls Try.prog 13 #[.pointer none] W fun e w' => ∃ a c, e = .returned (.slice a 0 c) ∧ Bl w w') := fun W h => (All_g (getC_nil W)).mono fun e w' ⟨a, c, h1, h2, h3⟩ => ⟨a, c, h1, h.step h3⟩
      have D4 : Hid (∀ W, Bl w W → Calls Try.prog 16 #[.pointer none] W fun e w' => ∃ a c, e = .returned (.slice a 0 c) ∧ Bl w w') := fun W h => (Present_g (getC_nil W)).mono fun e w' ⟨a, c, h1, h2, h3⟩ => ⟨a, c, h1, h.step h3⟩
      go_wp2_with (first
        | (go_at_call 22; refine (D1.out _ HX.out).mono ?_; clear D1 HX; rintro e w3 ⟨rfl, HX3⟩; have HX : Hid (Bl w (w3.alloc (.cells #[.int .i64 0, .int .i64 0, .int .i64 0] 28))) := HX3.alloc _; clear HX3)
        | (go_at_call 11; refine (D2.out _ HX.out).mono ?_; clear D2 HX; rintro e w4 ⟨rfl, HX3⟩; have HX : Hid (Bl w w4) := HX3; clear HX3)
        | (go_at_call 13; refine (D3.out _ HX.out).mono ?_; clear D3 HX; rintro e w5 ⟨a5, c5, rfl, HX3⟩; have HX : Hid (Bl w w5) := HX3; clear HX3)
        | (go_at_call 16; refine (D4.out _ HX.out).mono ?_; clear D4 HX; rintro e w6 ⟨a6, c6, rfl, HX3⟩; have HX : Hid (Bl w w6) := HX3; clear HX3))
      go_ret
      exact ⟨rfl, HX.out⟩
end Go.Proofs.Ytgnnlnhhikmneaa
