/- RecipeLines: a line that is none's is told by its number: the law answers true for every build and line. -/
import Derived.Test.YtgjpcddjfmdobaaDoorPrt7
namespace Go.Proofs.YtgjpcddjfmdobaaDoor
open Go.RowKit
set_option linter.unusedVariables false

theorem mem_take_succ (l : List UInt8) (k : Nat) (x : UInt8) (h : l[k]? = some x) (hn : (10 : UInt8) ∉ l.take k) (hx : x ≠ 10) : (10 : UInt8) ∉ l.take (k + 1) := by
  rw [List.take_add_one, h]
  simp only [Option.toList_some, List.mem_append, List.mem_singleton, not_or]
  exact ⟨hn, fun e => hx e.symm⟩
set_option maxRecDepth 8000 in
set_option maxHeartbeats 4000000 in
theorem lines_walk (g : RC.Gr) (sa : Option Addr) (sc : Nat) (aa : Option Addr) (ac : Nat) (l : List UInt8) (W : World) (hm : MX W) (hg : GA W.heap.size W g sa sc aa ac) (hk : grOk g) (hl : l.length ≤ maxLen) :
    Calls Tryd.prog 6 #[.agg (gv g sa sc aa ac), .string (M.bs l)] W fun e w' => e = .returned (.bool true) ∧ Bl W w' := by
  obtain ⟨S, A⟩ := g
  obtain ⟨V, hV⟩ : ∃ V, V = W.alloc (.cells (gv (S, A) sa sc aa ac) 25) := ⟨_, rfl⟩
  have hWV : Bl W V := by rw [hV]; exact (Bl.refl W).alloc _
  have hmV : MX V := hm.bl hWV
  have hgV := hg.bl hWV
  have hzl := M.bs_size l
  unfold maxLen at hl
  have HFI : Hid (∀ W', Bl V W' → Bl W W') := fun W' h => hWV.step h
  have CW : Hid (Calls Tryd.prog 9 #[] V fun e w' => e = .returned (.bool true) ∧ Bl V w') := awake_x (Bl.refl V) hmV
  have CG : Hid (∀ W', Bl V W' → Calls Tryd.prog 10 #[.agg (gv (S, A) sa sc aa ac)] W' fun e w' => e = .returned (.bool (greatB (S, A))) ∧ Bl V w') := fun W' h => great_x (S, A) sa sc aa ac h (hgV.bl h) hk
  have CP : Hid (∀ W', Bl V W' → Calls Tryd.prog 11 #[.agg (gv (S, A) sa sc aa ac)] W' fun e w' => e = .returned (prV (S, A)) ∧ Bl V w') := fun W' h => Print_x (S, A) sa sc aa ac h (hgV.bl h) hk
  have C0 : Hid (∀ W' i, Bl V W' → W'.cell? ⟨W.heap.size, i, none⟩ = (gv (S, A) sa sc aa ac)[i]?) := fun W' i h => by rw [hV] at h; exact box_cells h i
  have D0 : Hid (∀ W', Bl V W' → W'.cell? ⟨W.heap.size, 0, none⟩ = some (.slice sa S.length sc)) := fun W' h => by rw [C0.out W' 0 h]; rfl
  have D1 : Hid (∀ W', Bl V W' → W'.cell? ⟨W.heap.size, 1, none⟩ = some (.slice aa A.length ac)) := fun W' h => by rw [C0.out W' 1 h]; rfl
  cases hgr : greatB (S, A) with
  | true =>
    rw [hgr] at CG
    clear C0 CP hg hk hmV hgV hm hgr
    unfold gv at CG hV ⊢
    simp only [] at CG hV ⊢
    subst hV
    go_enter Tryd.func6, Tryd.ntmps6
    go_wp2_with (first
      | (go_at_call 9; refine CW.out.mono ?_; rintro e w1 ⟨rfl, HB⟩; have hd0 := D0.out _ HB; have hd1 := D1.out _ HB; clear CW)
      | (go_at_call 10; refine (CG.out _ HB).mono ?_; clear HB hd0 hd1; rintro e w2 ⟨rfl, HB⟩))
    go_ret
    exact ⟨rfl, HFI.out _ HB⟩
  | false =>
    rw [hgr] at CG
    by_cases hl2 : 200 < l.length
    · clear C0 CP hg hk hmV hgV hm hgr
      unfold gv at CG hV ⊢
      simp only [] at CG hV ⊢
      subst hV
      go_enter Tryd.func6, Tryd.ntmps6
      go_wp2_with (first
        | (go_at_call 9; refine CW.out.mono ?_; rintro e w1 ⟨rfl, HB⟩; have hd0 := D0.out _ HB; have hd1 := D1.out _ HB; clear CW)
        | (go_at_call 10; refine (CG.out _ HB).mono ?_; clear HB hd0 hd1; rintro e w2 ⟨rfl, HB⟩))
      go_ret
      exact ⟨rfl, HFI.out _ HB⟩
    cases hcn : RC.can (S, A) with
    | false =>
      simp only [prV, hcn, cond_false] at CP
      clear C0 hg hk hmV hgV hm hgr hcn
      unfold gv at CG CP hV ⊢
      simp only [] at CG CP hV ⊢
      subst hV
      go_enter Tryd.func6, Tryd.ntmps6
      go_wp2_with (first
        | (go_at_call 9; refine CW.out.mono ?_; rintro e w1 ⟨rfl, HB⟩; have hd0 := D0.out _ HB; have hd1 := D1.out _ HB; clear CW)
        | (go_at_call 10; refine (CG.out _ HB).mono ?_; clear HB hd0 hd1 CG; rintro e w2 ⟨rfl, HB⟩; have hd0 := D0.out _ HB; have hd1 := D1.out _ HB)
        | (go_at_call 11; refine (CP.out _ HB).mono ?_; clear HB hd0 hd1 CP; rintro e w3 ⟨rfl, HB⟩))
      go_ret
      exact ⟨rfl, HFI.out _ HB⟩
    | true =>
      simp only [prV, hcn, cond_true] at CP
      obtain ⟨cp1, cp2, _, _⟩ := RC.can_parts hcn
      simp only [] at cp1 cp2
      have htl := RC.text_length _ hcn
      have ht0 := M.bs_size (RC.text (S, A))
      have PX : Hid ((10 : UInt8) ∉ l → (∀ W', Bl V W' → Calls Tryd.prog 17 #[.string (M.bs (RC.text (S, A) ++ ([33] ++ (l ++ [10]))))] W' fun e w' => e = .returned (.tuple #[.agg zG, .int .i64 ((S.length : Int) + A.length + 1), .int .i64 24]) ∧ Bl V w') ∧ (∀ W', Bl V W' → Calls Tryd.prog 17 #[.string (M.bs (RC.text (S, A) ++ ([33] ++ l)))] W' fun e w' => e = .returned (.tuple #[.agg zG, .int .i64 ((S.length : Int) + A.length + 1), .int .i64 3]) ∧ Bl V w')) := fun hn => by
        obtain ⟨b1, b2⟩ := RC.parse_bang (S, A) hcn l (by omega) hn
        simp only [] at b1 b2
        refine ⟨fun W' h => ?_, fun W' h => ?_⟩
        · have h' := Parse_x (RC.text (S, A) ++ ([33] ++ (l ++ [10]))) h (hmV.bl h) (by simp; omega)
          rw [← RC.parse_eq _ (by simp; omega), b1] at h'
          refine h'.mono ?_
          rintro e w' ⟨rfl, hb⟩
          exact ⟨by simp, hb⟩
        · have h' := Parse_x (RC.text (S, A) ++ ([33] ++ l)) h (hmV.bl h) (by simp; omega)
          rw [← RC.parse_eq _ (by simp; omega), b2] at h'
          refine h'.mono ?_
          rintro e w' ⟨rfl, hb⟩
          exact ⟨by simp, hb⟩
      have a1 : M.bs (RC.text (S, A)) ++ (⟨#[33]⟩ : ByteArray) = M.bs (RC.text (S, A) ++ [33]) := bs_append (RC.text (S, A)) [33]
      have a2 : M.bs (RC.text (S, A) ++ [33]) ++ M.bs l = M.bs (RC.text (S, A) ++ ([33] ++ l)) := by rw [bs_append, List.append_assoc]
      have a3 : M.bs (RC.text (S, A) ++ ([33] ++ l)) ++ (⟨#[10]⟩ : ByteArray) = M.bs (RC.text (S, A) ++ ([33] ++ (l ++ [10]))) := by
        have := bs_append (RC.text (S, A) ++ ([33] ++ l)) [10]
        rw [show RC.text (S, A) ++ ([33] ++ l) ++ [10] = RC.text (S, A) ++ ([33] ++ (l ++ [10])) by simp] at this
        exact this
      have q1 : (M.bs (RC.text (S, A) ++ [33])).size = (RC.text (S, A)).length + 1 := by rw [M.bs_size]; simp
      have q2 : (M.bs (RC.text (S, A) ++ ([33] ++ l))).size = (RC.text (S, A)).length + 1 + l.length := by rw [M.bs_size]; simp; omega
      generalize RC.text (S, A) ++ ([33] ++ (l ++ [10])) = T3 at *
      generalize RC.text (S, A) ++ ([33] ++ l) = T2 at *
      generalize RC.text (S, A) ++ [33] = T1 at *
      generalize RC.text (S, A) = T0 at *
      clear C0 hg hk hmV hgV hm hgr hcn
      unfold gv at CG CP hV ⊢
      unfold zG at PX
      simp only [] at CG CP hV ⊢
      subst hV
      go_enter Tryd.func6, Tryd.ntmps6
      go_wp2_with (first
        | (go_at_call 9; refine CW.out.mono ?_; rintro e w1 ⟨rfl, HB⟩; have hd0 := D0.out _ HB; have hd1 := D1.out _ HB; clear CW)
        | (go_at_call 10; refine (CG.out _ HB).mono ?_; clear HB hd0 hd1 CG; rintro e w2 ⟨rfl, HB⟩; have hd0 := D0.out _ HB; have hd1 := D1.out _ HB)
        | (go_at_call 11; refine (CP.out _ HB).mono ?_; clear HB hd0 hd1 CP; rintro e w3 ⟨rfl, HB⟩))
      have HB3 : Hid (Bl (W.alloc (.cells #[.slice sa S.length sc, .slice aa A.length ac] 25)) w3) := HB
      clear HB
      go_loop [7] (fun u7 => ∃ k : Nat, k ≤ l.length ∧ u7 = .int .i64 k ∧ (10 : UInt8) ∉ l.take k) (fun u7 => l.length - (intOf u7).toNat)
      case atStart => exact ⟨0, Nat.zero_le _, rfl, by simp⟩
      case round =>
        obtain ⟨k, hk, rfl, hpre⟩ := hrel
        have HP : Hid ((10 : UInt8) ∉ l.take k) := hpre
        clear hpre
        by_cases hlt : k < l.length
        · have hsk : (M.bs l)[k]'(by omega) = l[k] := by simp [M.bs, ByteArray.getElem_eq_getElem_data]
          have hgk : l[k]? = some l[k] := List.getElem?_eq_getElem hlt
          have HN : Hid (l[k] ≠ 10 → (10 : UInt8) ∉ l.take (k + 1)) := mem_take_succ l k _ hgk HP.out
          generalize l[k] = x at *
          by_cases hx : x = 10
          · have hq : ((x.toNat : Int) == 10) = true := by rw [hx]; rfl
            clear PX HN hgk hx
            go_wp2_with fail
            go_ret
            exact ⟨rfl, HFI.out _ HB3.out⟩
          · have hq : ((x.toNat : Int) == 10) = false := by
              rw [beq_eq_false_iff_ne]; intro e; apply hx; apply UInt8.toNat_inj.1; show x.toNat = 10; omega
            have HN2 : Hid ((10 : UInt8) ∉ l.take (k + 1)) := HN.out hx
            clear PX HN hgk hx
            go_wp2_with fail
            go_round
            case rel => exact ⟨k + 1, by omega, by go_num, HN2.out⟩
            case measure => simp [intOf]; omega
        · obtain rfl : k = l.length := by omega
          obtain ⟨px, py⟩ := PX.out (by have := HP.out; rwa [List.take_length] at this)
          have P1 : Hid (∀ W', Bl (W.alloc (.cells #[.slice sa S.length sc, .slice aa A.length ac] 25)) W' → Calls Tryd.prog 17 #[.string (M.bs T3)] W' fun e w' => e = .returned (.tuple #[.agg #[.slice none 0 0, .slice none 0 0], .int .i64 ((S.length : Int) + A.length + 1), .int .i64 24]) ∧ Bl (W.alloc (.cells #[.slice sa S.length sc, .slice aa A.length ac] 25)) w') := px
          have P2 : Hid (∀ W', Bl (W.alloc (.cells #[.slice sa S.length sc, .slice aa A.length ac] 25)) W' → Calls Tryd.prog 17 #[.string (M.bs T2)] W' fun e w' => e = .returned (.tuple #[.agg #[.slice none 0 0, .slice none 0 0], .int .i64 ((S.length : Int) + A.length + 1), .int .i64 3]) ∧ Bl (W.alloc (.cells #[.slice sa S.length sc, .slice aa A.length ac] 25)) w') := py
          clear PX px py HP
          go_wp2_with (first
            | (go_at_call 17; refine (P1.out _ HB3.out).mono ?_; clear P1; rintro e w4 ⟨rfl, HB4⟩)
            | (go_at_call 17; refine (P2.out _ (HB4.alloc _)).mono ?_; clear P2; rintro e w5 ⟨rfl, HB5⟩; have hd0 := fun o => D0.out _ (HB5.alloc o); have hd1 := fun o => D1.out _ (HB5.alloc o)))
          go_ret
          exact ⟨rfl, HFI.out _ (HB5.alloc _)⟩
end Go.Proofs.YtgjpcddjfmdobaaDoor
