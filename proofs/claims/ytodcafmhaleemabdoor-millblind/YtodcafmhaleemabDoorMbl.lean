/- MillBlind's walk. -/
import Derived.Test.YtodcafmhaleemabDoorMen
import Derived.Test.YtodcafmhaleemabDoorQM3
namespace Go.Proofs.YtodcafmhaleemabDoor
open Go.RowKit
set_option linter.unusedVariables false

/-- none of the first k texts is too long -/
def ShB (l : List (List UInt8)) (k : Nat) : Prop := ∀ (j : Nat) t, j < k → l[j]? = some t → t.length ≤ 512
theorem ShB.all {l : List (List UInt8)} (h : ShB l l.length) : ∀ t ∈ l, t.length ≤ 512 := fun t ht => by
  obtain ⟨j, hj, e⟩ := List.getElem_of_mem ht
  exact h j t hj (by rw [← e]; exact List.getElem?_eq_getElem hj)
theorem ShB.zero (l : List (List UInt8)) : ShB l 0 := fun j t hj => by omega
theorem ShB.succ {l : List (List UInt8)} {k : Nat} (h : ShB l k) {t : List UInt8} (ht : l[k]? = some t) (hl : t.length ≤ 512) : ShB l (k + 1) := fun j s hj hs => by
  rcases (by omega : j < k ∨ j = k) with h' | rfl
  · exact h j s h' hs
  · rw [ht] at hs; cases hs; exact hl
/-- none of the first k bytes is an 'i' -/
def NoI (s : List UInt8) (k : Nat) : Prop := ∀ (j : Nat) x, j < k → s[j]? = some x → x ≠ 105
theorem NoI.all {s : List UInt8} (h : NoI s s.length) : ∀ x ∈ s, x ≠ 105 := fun x hx => by
  obtain ⟨j, hj, e⟩ := List.getElem_of_mem hx
  exact h j x hj (by rw [← e]; exact List.getElem?_eq_getElem hj)
theorem NoI.zero (s : List UInt8) : NoI s 0 := fun j x hj => by omega
theorem NoI.succ {s : List UInt8} {k : Nat} (h : NoI s k) {x : UInt8} (hx : s[k]? = some x) (hl : x ≠ 105) : NoI s (k + 1) := fun j y hj hy => by
  rcases (by omega : j < k ∨ j = k) with h' | rfl
  · exact h j y h' hy
  · rw [hx] at hy; cases hy; exact hl
set_option maxRecDepth 8000 in
set_option maxHeartbeats 4000000 in
theorem millBlind_walk (code : List UInt8) (x y : List (List UInt8)) (a1 a2 : Option Addr) (c1 c2 : Nat) (W : World) (hG : GW W) (hT : Tab W) (hx : TX W a1 x) (hy : TX W a2 y) (hl : code.length ≤ 9223372036854775807) (hn1 : x.length ≤ 9223372036854775807) (hn2 : y.length ≤ 9223372036854775807) (hxl : ∀ t ∈ x, t.length ≤ 9223372036854775807) (hyl : ∀ t ∈ y, t.length ≤ 9223372036854775807) :
    Calls Tryd.prog 3 #[.string (M.bs code), .slice a1 x.length c1, .slice a2 y.length c2] W fun e w' => e = .returned (.bool true) ∧ Below W.heap.size W w' := by
  have CA : Hid (Calls Tryd.prog 4 #[] W fun e w' => e = .returned (.bool true) ∧ GB W w') := awake_m (GB.refl hG) hT
  have hs := M.bs_size code
  by_cases h4 : 4 < x.length
  · clear hG hT hx hy hxl hyl
    go_enter Tryd.func3, Tryd.ntmps3
    go_wp2_with (go_at_call 4; refine CA.out.mono ?_; clear CA; rintro e w1 ⟨rfl, HG⟩)
    go_ret
    exact ⟨rfl, HG.b⟩
  · by_cases h5 : 4 < y.length
    · clear hG hT hx hy hxl hyl
      go_enter Tryd.func3, Tryd.ntmps3
      go_wp2_with (go_at_call 4; refine CA.out.mono ?_; clear CA; rintro e w1 ⟨rfl, HG⟩)
      go_ret
      exact ⟨rfl, HG.b⟩
    · have CR : Hid (∀ W', GB W W' → Calls Tryd.prog 5 #[.string (M.bs code), .slice a1 x.length c1] W' fun e w' => e = .returned (runV (Q.run code x)) ∧ GB W w' ∧ Below W'.heap.size W' w') := Run_l code x a1 c1 hT hx hl hn1 hxl
      have CR2 : Hid (∀ W', GB W W' → Calls Tryd.prog 5 #[.string (M.bs code), .slice a2 y.length c2] W' fun e w' => e = .returned (runV (Q.run code y)) ∧ GB W w' ∧ Below W'.heap.size W' w') := Run_l code y a2 c2 hT hy hl hn2 hyl
      have HEQ : Hid (ShB x x.length → ShB y y.length → NoI code code.length → Q.run code x = Q.run code y) := fun h1 h2 h3 => Q.run_blind code x y h3.all (by omega) (by omega) h1.all h2.all
      have HTX : Hid (∀ W', GB W W' → TX W' a1 x) := fun W' h => hx.below h.b
      have HTY : Hid (∀ W', GB W W' → TX W' a2 y) := fun W' h => hy.below h.b
      have HXL : Hid (∀ t ∈ x, t.length ≤ 9223372036854775807) := hxl
      have HYL : Hid (∀ t ∈ y, t.length ≤ 9223372036854775807) := hyl
      clear hG hT hx hy hxl hyl
      generalize Q.run code x = R at *
      generalize Q.run code y = R2 at *
      go_enter Tryd.func3, Tryd.ntmps3
      go_wp2_with (go_at_call 4; refine CA.out.mono ?_; clear CA; rintro e w1 ⟨rfl, HG⟩; have HG : Hid (GB W w1) := HG)
      go_loopw [7] (fun u7 wr => ∃ k : Nat, k ≤ x.length ∧ u7 = .int .i64 (k : Int) ∧ w1 = wr ∧ ShB x k) (fun u7 _ => x.length - (intOf u7).toNat)
      case atStart => exact ⟨0, Nat.zero_le _, rfl, rfl, ShB.zero _⟩
      case round =>
        obtain ⟨k, hk, rfl, rfl, hpl⟩ := hrel
        have HPL : Hid (ShB x k) := hpl
        clear hpl
        by_cases hlt : k < x.length
        · obtain ⟨t, ht⟩ : ∃ t, x[k]? = some t := ⟨x[k], List.getElem?_eq_getElem hlt⟩
          obtain ⟨sb, off, rfl, hsb, hc⟩ := HTX.out _ HG.out k t ht
          have i0 : (0 : Int) ≤ (k : Int) := by omega
          have i1 : (k : Int) < (x.length : Int) := by omega
          have htl := HXL.out t (List.mem_of_getElem? ht)
          have hst := M.bs_size t
          by_cases h6 : 512 < t.length
          · clear ht CR CR2 HEQ
            go_wp2_with fail
            go_ret
            exact ⟨rfl, HG.out.b⟩
          · have HPN : Hid (ShB x (k + 1)) := HPL.out.succ ht (by omega)
            clear ht CR CR2 HEQ
            go_wp2_with fail
            go_roundw
            case rel => exact ⟨k + 1, by omega, by go_num, by first | exact trivial | rfl, HPN.out⟩
            case measure => simp [intOf]; omega
        · obtain rfl : k = x.length := by omega
          have HP1 : Hid (ShB x x.length) := HPL.out
          clear HPL HTX HXL hk hlt
          go_wp2_with fail
          go_loopw [8] (fun u8 wr => ∃ k : Nat, k ≤ y.length ∧ u8 = .int .i64 (k : Int) ∧ w1 = wr ∧ ShB y k) (fun u8 _ => y.length - (intOf u8).toNat)
          case atStart => exact ⟨0, Nat.zero_le _, rfl, by first | exact trivial | rfl, ShB.zero _⟩
          case round =>
            obtain ⟨k, hk, rfl, rfl, hpl⟩ := hrel
            have HPL : Hid (ShB y k) := hpl
            clear hpl
            by_cases hlt : k < y.length
            · obtain ⟨t, ht⟩ : ∃ t, y[k]? = some t := ⟨y[k], List.getElem?_eq_getElem hlt⟩
              obtain ⟨sb, off, rfl, hsb, hc⟩ := HTY.out _ HG.out k t ht
              have i0 : (0 : Int) ≤ (k : Int) := by omega
              have i1 : (k : Int) < (y.length : Int) := by omega
              have htl := HYL.out t (List.mem_of_getElem? ht)
              have hst := M.bs_size t
              by_cases h6 : 512 < t.length
              · clear ht CR CR2 HEQ
                go_wp2_with fail
                go_ret
                exact ⟨rfl, HG.out.b⟩
              · have HPN : Hid (ShB y (k + 1)) := HPL.out.succ ht (by omega)
                clear ht CR CR2 HEQ
                go_wp2_with fail
                go_roundw
                case rel => exact ⟨k + 1, by omega, by go_num, by first | exact trivial | rfl, HPN.out⟩
                case measure => simp [intOf]; omega
            · obtain rfl : k = y.length := by omega
              have HP2 : Hid (ShB y y.length) := HPL.out
              clear HPL HTY HYL hk hlt
              go_wp2_with fail
              go_loopw [9] (fun u9 wr => ∃ k : Nat, k ≤ code.length ∧ u9 = .int .i64 (k : Int) ∧ w1 = wr ∧ NoI code k) (fun u9 _ => code.length - (intOf u9).toNat)
              case atStart => exact ⟨0, Nat.zero_le _, rfl, by first | exact trivial | rfl, NoI.zero _⟩
              case round =>
                obtain ⟨k, hk, rfl, rfl, hpl⟩ := hrel
                have HPL : Hid (NoI code k) := hpl
                clear hpl
                by_cases hlt : k < code.length
                · obtain ⟨b, hb⟩ : ∃ b, code[k]? = some b := ⟨code[k], List.getElem?_eq_getElem hlt⟩
                  have hi := idx_at code k b hb
                  have i1 : (k : Int) < (code.length : Int) := by omega
                  by_cases h6 : b = 105
                  · have q6 : ((b.toNat : Int) == 105) = true := by subst h6; rfl
                    clear h6 hb CR CR2 HEQ
                    go_wp2_with fail
                    go_ret
                    exact ⟨rfl, HG.out.b⟩
                  · have q6 : ((b.toNat : Int) == 105) = false := by
                      have := u8_is b 105
                      have h' : ¬ (b.toNat : Int) = 105 := fun e => h6 (this.mp e)
                      simpa using h'
                    have HPN : Hid (NoI code (k + 1)) := HPL.out.succ hb h6
                    clear h6 hb CR CR2 HEQ
                    go_wp2_with fail
                    go_roundw
                    case rel => exact ⟨k + 1, by omega, by go_num, by first | exact trivial | rfl, HPN.out⟩
                    case measure => simp [intOf]; omega
                · obtain rfl : k = code.length := by omega
                  obtain rfl := HEQ.out HP1.out HP2.out HPL.out
                  clear HEQ HP1 HP2 HPL hk hlt
                  obtain ⟨rc, rb, rn⟩ := R
                  unfold runV at CR CR2
                  simp only at CR CR2
                  have hbq : ((M.bs rb).toList == (M.bs rb).toList) = true := by simp
                  go_wp2_with (first
                    | (go_at_call 5; refine (CR.out _ HG.out).mono ?_; clear CR; rintro e w3 ⟨rfl, hg3, _⟩; have HG3 : Hid (GB W w3) := hg3; clear hg3)
                    | (go_at_call 5; refine (CR2.out _ (HG3.out.alloc _)).mono ?_; clear CR2; rintro e w4 ⟨rfl, hg4, hb4⟩; have HG4 : Hid (GB W w4) := hg4; have hr := (ResAt.new w3 rc rb).below hb4; clear hg4 hb4; have a0 := fun o : Obj => (hr.below ((Below.refl _ w4).alloc (Nat.le_refl _) o)).1; have a1 := fun o : Obj => (hr.below ((Below.refl _ w4).alloc (Nat.le_refl _) o)).2; clear hr))
                  go_ret
                  exact ⟨rfl, HG4.out.b.alloc HG4.out.b.size _⟩
end Go.Proofs.YtodcafmhaleemabDoor
