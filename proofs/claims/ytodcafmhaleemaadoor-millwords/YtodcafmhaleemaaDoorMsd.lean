/- MillStands' walk. -/
import Derived.Test.YtodcafmhaleemaaDoorMen
import Derived.Test.YtodcafmhaleemaaDoorQM3
namespace Go.Proofs.YtodcafmhaleemaaDoor
open Go.RowKit
set_option linter.unusedVariables false

theorem conv1M (W : World) (c : UInt8) (x : Int) (T : TypeId) (hx : x = (c.toNat : Int)) : (convert 35 9 (.slice (some ⟨W.heap.size, 0, none⟩) 1 1)).run Tryd.prog (W.alloc (.cells #[.int .u8 x] T)) = .ok (.string (M.bs [c])) (W.alloc (.cells #[.int .u8 x] T)) := by
  subst hx
  have := run_convert_bytes_back (P := Tryd.prog) (W.alloc (.cells #[.int .u8 (c.toNat : Int)] T)) 35 9 5 ⟨W.heap.size, 0, none⟩ 1 [c] Tryd.underlying35 Tryd.underlying5 Tryd.underlying9 (fun j hj => by
    obtain rfl : j = 0 := by simpa using hj
    rw [Addr.add_mid]; exact cell_new1 _ _ _)
  exact this
/-- none of the first k steps is a jump -/
def PlB (l : List (List UInt8)) (k : Nat) : Prop := ∀ (j : Nat) s, j < k → l[j]? = some s → Q.plain s
set_option maxRecDepth 8000 in
set_option maxHeartbeats 4000000 in
theorem millStands_walk (code : List UInt8) (ins : List (List UInt8)) (a : Option Addr) (c : Nat) (junk : List UInt8) (W : World) (hG : GW W) (hT : Tab W) (hx : TX W a ins) (hl : code.length ≤ 9223372036854775807) (hn : ins.length ≤ 9223372036854775807) (hil : ∀ t ∈ ins, t.length ≤ 9223372036854775807) (hj : junk.length ≤ 9223372036854775807) :
    Calls Tryd.prog 7 #[.string (M.bs code), .slice a ins.length c, .string (M.bs junk)] W fun e w' => e = .returned (.bool true) ∧ Below W.heap.size W w' := by
  have CA : Hid (Calls Tryd.prog 9 #[] W fun e w' => e = .returned (.bool true) ∧ GB W w') := awake_m (GB.refl hG) hT
  have hs := M.bs_size code
  have hsj := M.bs_size junk
  by_cases h40 : 40 < ins.length
  · clear hG hT hx hil
    go_enter Tryd.func7, Tryd.ntmps7
    go_wp2_with (go_at_call 9; refine CA.out.mono ?_; clear CA; rintro e w1 ⟨rfl, HG⟩)
    go_ret
    exact ⟨rfl, HG.b⟩
  · by_cases h30 : 30 < junk.length
    · clear hG hT hx hil
      go_enter Tryd.func7, Tryd.ntmps7
      go_wp2_with (go_at_call 9; refine CA.out.mono ?_; clear CA; rintro e w1 ⟨rfl, HG⟩)
      go_ret
      exact ⟨rfl, HG.b⟩
    · by_cases h64 : 62 < code.length + junk.length
      · clear hG hT hx hil
        have q : (62 : Int) - (junk.length : Int) < (code.length : Int) := by omega
        go_enter Tryd.func7, Tryd.ntmps7
        go_wp2_with (go_at_call 9; refine CA.out.mono ?_; clear CA; rintro e w1 ⟨rfl, HG⟩)
        go_ret
        exact ⟨rfl, HG.b⟩
      · have q : ¬ (62 : Int) - (junk.length : Int) < (code.length : Int) := by omega
        cases hp : Q.parse code with
        | none =>
          have CS : Hid (∀ W', GB W W' → Calls Tryd.prog 12 #[.string (M.bs code)] W' fun e w' => e = .returned (.tuple #[.slice none 0 0, .int .i64 32]) ∧ GB W w') := fun W' h => by
            refine (Steps_at code W' (by omega)).mono ?_
            intro e w' hq
            unfold StP at hq
            rw [hp] at hq
            exact ⟨hq.1, h.step hq.2⟩
          clear hG hT hp hx hil
          go_enter Tryd.func7, Tryd.ntmps7
          go_wp2_with (first
            | (go_at_call 9; refine CA.out.mono ?_; clear CA; rintro e w1 ⟨rfl, HG⟩; have HG : Hid (GB W w1) := HG)
            | (go_at_call 12; refine (CS.out _ HG.out).mono ?_; clear HG; rintro e w2 ⟨rfl, HG⟩; have HG : Hid (GB W w2) := HG))
          go_ret
          exact ⟨rfl, HG.out.b⟩
        | some l =>
          obtain ⟨hf, hne⟩ := Q.parse_some hp
          have hll : l.length ≤ 64 := by
            have : l.length ≤ l.flatten.length := by
              clear hp hf CA
              induction l with
              | nil => simp
              | cons x l ih =>
                have h2 := ih (fun y hy => hne y (by simp [hy]))
                have h3 : 0 < x.length := by
                  rcases x with _ | ⟨c, x⟩
                  · exact absurd rfl (hne [] (by simp))
                  · simp
                simp only [List.flatten_cons, List.length_append, List.length_cons]
                omega
            rw [hf] at this
            omega
          have CS : Hid (∀ W', GB W W' → Calls Tryd.prog 12 #[.string (M.bs code)] W' fun e w' => ∃ a c, e = .returned (.tuple #[.slice a l.length c, .int .i64 0]) ∧ Strs w'.heap.size w' (.slice a l.length c) l ∧ GB W w') := fun W' h => by
            refine (Steps_at code W' (by omega)).mono ?_
            intro e w' hq
            unfold StP at hq
            rw [hp] at hq
            obtain ⟨a, c, h2, h3, _, h4⟩ := hq
            exact ⟨a, c, h2, h3, h.step h4⟩
          have HNE : Hid (∀ x ∈ l, x ≠ []) := hne
          obtain ⟨z, hz⟩ : ∃ z : UInt8, z.toNat = 2 + junk.length := ⟨UInt8.ofNat (2 + junk.length), by rw [UInt8.toNat_ofNat_of_lt' (by show 2 + junk.length < 256; omega)]⟩
          have HRJ : Hid (PlB l l.length → (Q.run code ins = ⟨4, [], 0⟩ ∧ Q.run (103 :: z :: (junk ++ code)) ins = ⟨4, [], 0⟩) ∨ ((Q.run code ins).code ≠ 4 ∧ Q.run (103 :: z :: (junk ++ code)) ins = Q.up (Q.run code ins))) := fun h =>
            Q.run_jump code junk ins l z hz (by omega) hp (fun s hs => by
              obtain ⟨j, hj, e⟩ := List.getElem_of_mem hs
              exact h j s hj (by rw [← e]; exact List.getElem?_eq_getElem hj))
          have CR : Hid (∀ W', GB W W' → Calls Tryd.prog 10 #[.string (M.bs code), .slice a ins.length c] W' fun e w' => e = .returned (runV (Q.run code ins)) ∧ GB W w' ∧ Below W'.heap.size W' w') := Run_l code ins a c hT hx hl hn hil
          have CR2 : Hid (∀ W', GB W W' → Calls Tryd.prog 10 #[.string (M.bs (103 :: z :: (junk ++ code))), .slice a ins.length c] W' fun e w' => e = .returned (runV (Q.run (103 :: z :: (junk ++ code)) ins)) ∧ GB W w' ∧ Below W'.heap.size W' w') := Run_l (103 :: z :: (junk ++ code)) ins a c hT hx (by simp; omega) hn hil
          have hgd := (Q.good_run code ins).n
          have HCV : Hid (∀ (W : World) (T : TypeId), (convert 35 9 (.slice (some ⟨W.heap.size, 0, none⟩) 1 1)).run Tryd.prog (W.alloc (.cells #[.int .u8 (2 + (junk.length : Int))] T)) = .ok (.string (M.bs [z])) (W.alloc (.cells #[.int .u8 (2 + (junk.length : Int))] T))) := fun W T => conv1M W z _ T (by omega)
          have ap1 : ⟨#[103]⟩ ++ M.bs [z] = M.bs [103, z] := bs_append [103] [z]
          have ap2 : M.bs [103, z] ++ M.bs junk = M.bs (103 :: z :: junk) := bs_append [103, z] junk
          have ap3 : M.bs (103 :: z :: junk) ++ M.bs code = M.bs (103 :: z :: (junk ++ code)) := bs_append (103 :: z :: junk) code
          have sz1 : (M.bs [z]).size = 1 := M.bs_size _
          have sz2 : (M.bs [103, z]).size = 2 := M.bs_size _
          have sz3 : (M.bs (103 :: z :: junk)).size = junk.length + 2 := M.bs_size _
          clear hG hT hp hf hne hx hil hz
          generalize Q.run code ins = R at *
          generalize Q.run (103 :: z :: (junk ++ code)) ins = R2 at *
          generalize M.bs (103 :: z :: (junk ++ code)) = B3 at *
          generalize M.bs (103 :: z :: junk) = B2 at *
          generalize M.bs [103, z] = B1 at *
          generalize M.bs [z] = B0 at *
          go_enter Tryd.func7, Tryd.ntmps7
          go_wp2_with (first
            | (go_at_call 9; refine CA.out.mono ?_; clear CA; rintro e w1 ⟨rfl, HG⟩; have HG : Hid (GB W w1) := HG)
            | (go_at_call 12; refine (CS.out _ HG.out).mono ?_; clear HG CS; rintro e w2 ⟨la, lc, rfl, hst, HG⟩; have HG : Hid (GB W w2) := HG; have HST : Hid (TX w2 la l) := strs_at hst; clear hst))
          go_loopw [9] (fun u9 wr => ∃ k : Nat, k ≤ l.length ∧ u9 = .int .i64 (k : Int) ∧ wr = w2 ∧ PlB l k) (fun u9 _ => l.length - (intOf u9).toNat)
          case atStart => exact ⟨0, Nat.zero_le _, rfl, rfl, fun j s hj => by omega⟩
          case round =>
            obtain ⟨k, hk, rfl, rfl, hpl⟩ := hrel
            have HPL : Hid (PlB l k) := hpl
            clear hpl
            by_cases hlt : k < l.length
            · obtain ⟨t, ht⟩ : ∃ t, l[k]? = some t := ⟨l[k], List.getElem?_eq_getElem hlt⟩
              obtain ⟨sb, off, rfl, hsb, hc⟩ := HST.out k t ht
              have i0 : (0 : Int) ≤ (k : Int) := by omega
              have i1 : (k : Int) < (l.length : Int) := by omega
              have hnt := HNE.out t (List.mem_of_getElem? ht)
              obtain ⟨x, r, rfl⟩ : ∃ x r, t = x :: r := by
                rcases t with _ | ⟨x, r⟩
                · exact absurd rfl hnt
                · exact ⟨x, r, rfl⟩
              have hi := idx_0 (x :: r) x rfl
              by_cases h6 : x = 106
              · have q6 : ((x.toNat : Int) == 106) = true := by subst h6; rfl
                clear h6 ht CR CR2 HRJ ap1 ap2 ap3
                go_wp2_with fail
                go_ret
                exact ⟨rfl, HG.out.b⟩
              · have q6 : ((x.toNat : Int) == 106) = false := by
                  have := u8_is x 106
                  have h' : ¬ (x.toNat : Int) = 106 := fun e => h6 (this.mp e)
                  simpa using h'
                by_cases h3 : x = 103
                · have q3 : ((x.toNat : Int) == 103) = true := by subst h3; rfl
                  clear h6 h3 ht CR CR2 HRJ ap1 ap2 ap3
                  go_wp2_with fail
                  go_ret
                  exact ⟨rfl, HG.out.b⟩
                · have q3 : ((x.toNat : Int) == 103) = false := by
                    have := u8_is x 103
                    have h' : ¬ (x.toNat : Int) = 103 := fun e => h3 (this.mp e)
                    simpa using h'
                  have HPN : Hid (PlB l (k + 1)) := fun j s hj hs => by
                    rcases (by omega : j < k ∨ j = k) with h' | rfl
                    · exact HPL.out j s h' hs
                    · rw [ht] at hs; cases hs; exact ⟨h6, h3⟩
                  clear h6 h3 ht CR CR2 HRJ ap1 ap2 ap3
                  go_wp2_with fail
                  go_roundw
                  case rel => exact ⟨k + 1, by omega, by go_num, by first | exact trivial | rfl, HPN.out⟩
                  case measure => simp [intOf]; omega
            · obtain rfl : k = l.length := by omega
              have hrj := HRJ.out HPL.out
              clear HRJ HPL HNE HST
              rcases hrj with ⟨rfl, rfl⟩ | ⟨h4, rfl⟩
              · unfold runV at CR CR2
                go_wp2_with (first
                  | (go_at_call 10; refine (CR.out _ HG.out).mono ?_; clear CR; rintro e w3 ⟨rfl, hg3, _⟩; have HG3 : Hid (GB W w3) := hg3; clear hg3; have hcv := HCV.out (w3.alloc (.cells #[.int .i64 (4 : Int), .string (M.bs [])] 26)) 5; rw [show (w3.alloc (.cells #[.int .i64 (4 : Int), .string (M.bs [])] 26)).heap.size = w3.heap.size + 1 by simp] at hcv)
                  | (go_at_call 10; refine (CR2.out _ ((HG3.out.alloc _).alloc _)).mono ?_; clear CR2 hcv; rintro e w4 ⟨rfl, hg4, hb4⟩; have HG4 : Hid (GB W w4) := hg4; have hr := ((ResAt.new w3 4 []).below ((Below.refl _ _).alloc (Nat.le_refl _) _)).below hb4; clear hg4 hb4; have a0 := fun o : Obj => (hr.below ((Below.refl _ w4).alloc (Nat.le_refl _) o)).1; have a1 := fun o : Obj => (hr.below ((Below.refl _ w4).alloc (Nat.le_refl _) o)).2; clear hr))
                go_ret
                exact ⟨rfl, HG4.out.b.alloc HG4.out.b.size _⟩
              · obtain ⟨rc, rb, rn⟩ := R
                unfold Q.up at CR2
                unfold runV at CR CR2
                simp only at CR CR2 h4 hgd
                have q4 : ((rc : Int) == 4) = false := by simp; omega
                have hbq : ((M.bs rb).toList == (M.bs rb).toList) = true := by simp
                go_wp2_with (first
                  | (go_at_call 10; refine (CR.out _ HG.out).mono ?_; clear CR; rintro e w3 ⟨rfl, hg3, _⟩; have HG3 : Hid (GB W w3) := hg3; clear hg3; have hcv := HCV.out (w3.alloc (.cells #[.int .i64 (rc : Int), .string (M.bs rb)] 26)) 5; rw [show (w3.alloc (.cells #[.int .i64 (rc : Int), .string (M.bs rb)] 26)).heap.size = w3.heap.size + 1 by simp] at hcv)
                  | (go_at_call 10; refine (CR2.out _ ((HG3.out.alloc _).alloc _)).mono ?_; clear CR2 hcv; rintro e w4 ⟨rfl, hg4, hb4⟩; have HG4 : Hid (GB W w4) := hg4; have hr := ((ResAt.new w3 rc rb).below ((Below.refl _ _).alloc (Nat.le_refl _) _)).below hb4; clear hg4 hb4; have a0 := fun o : Obj => (hr.below ((Below.refl _ w4).alloc (Nat.le_refl _) o)).1; have a1 := fun o : Obj => (hr.below ((Below.refl _ w4).alloc (Nat.le_refl _) o)).2; clear hr))
                go_ret
                exact ⟨rfl, HG4.out.b.alloc HG4.out.b.size _⟩
end Go.Proofs.YtodcafmhaleemaaDoor
