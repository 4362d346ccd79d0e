/- A machine's run, and mill.Run. -/
import Derived.Test.YtodcafmhaleemaaDoorT11
namespace Go.Proofs.YtodcafmhaleemaaDoor
open Go.RowKit
set_option linter.unusedVariables false

theorem Q.first_form {s x : List UInt8} (h : Q.first s = some x) : (∃ c, x = [c] ∧ Q.one c = true) ∨ (∃ c d, x = [c, d] ∧ Q.two c = true) ∨ ∃ d r, x = 112 :: d :: r := by
  unfold Q.first at h
  by_cases h0 : s = []
  · rw [if_pos h0] at h; cases h
  · rw [if_neg h0] at h
    by_cases h1 : Q.width s = 0 ∨ s.length < Q.width s
    · rw [if_pos h1] at h; cases h
    · rw [if_neg h1] at h
      have hw : ¬ Q.width s = 0 ∧ ¬ s.length < Q.width s := ⟨fun e => h1 (Or.inl e), fun e => h1 (Or.inr e)⟩
      cases h
      obtain ⟨c, r, rfl⟩ : ∃ c r, s = c :: r := by
        rcases s with _ | ⟨c, r⟩
        · exact absurd rfl h0
        · exact ⟨c, r, rfl⟩
      have hd : (c :: r).getD 0 0 = c := rfl
      obtain ⟨hw1, hw2⟩ := hw
      by_cases q1 : Q.one c = true
      · have e : Q.width (c :: r) = 1 := by unfold Q.width; rw [hd, if_pos q1]
        rw [e]
        exact Or.inl ⟨c, rfl, q1⟩
      · by_cases q2 : Q.two c = true
        · have e : Q.width (c :: r) = 2 := by unfold Q.width; rw [hd, if_neg q1, if_pos q2]
          rw [e] at hw2 ⊢
          rcases r with _ | ⟨d, r⟩
          · simp at hw2
          · exact Or.inr (Or.inl ⟨c, d, rfl, q2⟩)
        · by_cases q3 : (c == 112) = true
          · obtain rfl : c = 112 := by simpa using q3
            rcases r with _ | ⟨d, r⟩
            · have e : Q.width [112] = 2 := by decide
              rw [e] at hw2; simp at hw2
            · have e : Q.width (112 :: d :: r) = 2 + d.toNat := by
                unfold Q.width; rw [hd, if_neg q1, if_neg q2, if_pos q3, if_neg (by simp)]; rfl
              rw [e]
              refine Or.inr (Or.inr ⟨d, r.take d.toNat, ?_⟩)
              rw [Nat.add_comm]; rfl
          · have e : Q.width (c :: r) = 0 := by unfold Q.width; rw [hd, if_neg q1, if_neg q2, if_neg q3]
            exact absurd e hw1
theorem do_at {w W : World} {b : Nat} {code : List UInt8} {a : Option Addr} {c place n : Nat} {ins st : List (List UInt8)} {v : Value} (h : SX w b (rowM code a ins.length c place n) st v W) (hin : IN w a ins) (hT : Tab w) (hn : n ≤ 300) (hp : place ≤ 1000) (s : List UInt8) (hs : Q.stepAt code place = some s) (hc : code.length ≤ 1000) :
    Calls Tryd.prog 26 #[.pointer (some ⟨b, 0, none⟩), .string (M.bs s)] W fun e w' => e = .returned (.int .i64 ((Q.act ins st s).1 : Int)) ∧ ∃ v', SX w b (rowM code a ins.length c (Q.next ⟨st, place, n⟩ s) (n + 1)) (Q.act ins st s).2 v' w' := by
  have hl := (Q.first_some hs).2.1
  rw [List.length_drop] at hl
  rcases Q.first_form hs with ⟨x, rfl, hx⟩ | ⟨x, d, rfl, hx⟩ | ⟨d, r, rfl⟩
  · have hx' : x = 99 ∨ x = 100 ∨ x = 115 ∨ x = 120 ∨ x = 114 ∨ x = 104 ∨ x = 108 ∨ x = 61 := by simpa [Q.one, or_assoc] using hx
    rcases hx' with rfl | rfl | rfl | rfl | rfl | rfl | rfl | rfl
    · exact do_c h hin hT hn hp
    · exact do_d h hin hT hn hp
    · exact do_s h hin hT hn hp
    · exact do_x h hin hT hn hp
    · exact do_r h hin hT hn hp
    · exact do_h h hin hT hn hp
    · exact do_l h hin hT hn hp
    · exact do_e h hin hT hn hp
  · have hx' : x = 105 ∨ x = 116 ∨ x = 107 ∨ x = 106 ∨ x = 103 := by simpa [Q.two, or_assoc] using hx
    rcases hx' with rfl | rfl | rfl | rfl | rfl
    · exact do_i h hin hT hn hp d
    · exact do_t h hin hT hn hp d
    · exact do_k h hin hT hn hp d
    · exact do_j h hin hT hn hp d
    · exact do_g h hin hT hn hp d
  · exact do_p h hin hT hn hp d r (by simp at hl; omega)
theorem Q.next_le {code s : List UInt8} {m : Q.Ms} (hs : Q.stepAt code m.place = some s) (hc : code.length ≤ 64) : Q.next m s ≤ 255 := by
  have hl := (Q.first_some hs).2.1
  rw [List.length_drop] at hl
  have := Q.first_len hs
  have h1 := (s.getD 1 0).toNat_lt
  unfold Q.next
  repeat' split
  all_goals omega

theorem Q.put_le (st : List (List UInt8)) (t : List UInt8) : (Q.put st t).1 ≤ 100 := by
  unfold Q.put
  split
  · simp
  · split <;> simp
theorem Q.change_le (f) (st : List (List UInt8)) : (Q.change f st).1 ≤ 100 := by
  rcases st with _ | ⟨t, r⟩
  · simp [Q.change]
  · exact Q.put_le _ _
theorem Q.fold_le (f) (st : List (List UInt8)) : (Q.fold f st).1 ≤ 100 := by
  rcases st with _ | ⟨t, r⟩
  · simp [Q.fold]
  · exact Q.change_le _ _
theorem Q.double_le (st : List (List UInt8)) : (Q.double st).1 ≤ 100 := by
  rcases st with _ | ⟨t, r⟩
  · simp [Q.double]
  · exact Q.put_le _ _
theorem Q.swap_le (st : List (List UInt8)) : (Q.swap st).1 ≤ 100 := by
  rcases st with _ | ⟨t, _ | ⟨u, r⟩⟩ <;> simp [Q.swap]
theorem Q.drop_le (st : List (List UInt8)) : (Q.drop st).1 ≤ 100 := by
  rcases st with _ | ⟨t, r⟩ <;> simp [Q.drop]
theorem Q.ite_le {p : Prop} [Decidable p] {a b : Nat × List (List UInt8)} (ha : a.1 ≤ 100) (hb : b.1 ≤ 100) : (if p then a else b).1 ≤ 100 := by
  by_cases h : p
  · rw [if_pos h]; exact ha
  · rw [if_neg h]; exact hb
theorem Q.act_le (ins st : List (List UInt8)) (s : List UInt8) : (Q.act ins st s).1 ≤ 100 := by
  unfold Q.act
  simp only
  repeat' first | exact Q.put_le _ _ | exact Q.fold_le _ _ | exact Q.double_le _ | exact Q.swap_le _ | exact Q.drop_le _ | exact Q.change_le _ _ | exact (by decide : (32 : Nat) ≤ 100) | exact (by decide : (0 : Nat) ≤ 100) | refine Q.ite_le ?_ ?_

/-- a machine that is in the state m -/
def MX (w : World) (b : Nat) (code : List UInt8) (a : Option Addr) (c : Nat) (ins : List (List UInt8)) (m : Q.Ms) (W : World) : Prop := ∃ v, SX w b (rowM code a ins.length c m.place m.n) m.st v W
/-- how many steps are left, read in memory -/
def leftM (b : Nat) (W : World) : Nat := 301 - (match W.cell? ⟨b, 4, none⟩ with | some v => (intOf v).toNat | none => 0)
theorem leftM_is {w W : World} {b : Nat} {code : List UInt8} {a : Option Addr} {c : Nat} {ins : List (List UInt8)} {m : Q.Ms} (h : MX w b code a c ins m W) : leftM b W = 301 - m.n := by
  obtain ⟨v, hs⟩ := h
  unfold leftM
  rw [hs.m4]
  simp [intOf]
theorem runF_unfold (code : List UInt8) (ins : List (List UInt8)) (m : Q.Ms) (hn : m.n ≤ 300) : Q.runF code ins (301 - m.n) m = if m.place = code.length then Q.top m else match Q.stepAt code m.place with
    | none => ⟨32, [], m.n⟩
    | some s => if 300 ≤ m.n then ⟨30, [], m.n⟩ else if (Q.step ins m s).1 = 0 then Q.runF code ins (301 - (Q.step ins m s).2.n) (Q.step ins m s).2 else ⟨(Q.step ins m s).1, [], (Q.step ins m s).2.n⟩ := by
  obtain ⟨k, hk⟩ : ∃ k, 301 - m.n = k + 1 := ⟨300 - m.n, by omega⟩
  rw [hk]
  have : ∀ s, 301 - (Q.step ins m s).2.n = k := fun s => by show 301 - (m.n + 1) = k; omega
  simp only [this]
  rfl
/-- an answer of a code that is run -/
def reV (R : Q.Re) : Value := .tuple #[.string (M.bs R.blob), .int .i64 (R.code : Int)]

set_option maxRecDepth 8000 in
set_option maxHeartbeats 4000000 in
theorem run_at {w W : World} {b : Nat} {code : List UInt8} {a : Option Addr} {c : Nat} {ins : List (List UInt8)} (hx : MX w b code a c ins ⟨[], 0, 0⟩ W) (hin : IN w a ins) (hT : Tab w) (hc : code.length ≤ 64) :
    Calls Tryd.prog 18 #[.pointer (some ⟨b, 0, none⟩)] W fun e w' => e = .returned (reV (Q.runF code ins 301 ⟨[], 0, 0⟩)) ∧ ∃ m, MX w b code a c ins m w' ∧ m.n = (Q.runF code ins 301 ⟨[], 0, 0⟩).n := by
  obtain ⟨R, hR0⟩ : ∃ R, Q.runF code ins 301 ⟨[], 0, 0⟩ = R := ⟨_, rfl⟩
  rw [hR0]
  have HR0 : Hid (Q.runF code ins (301 - (⟨[], 0, 0⟩ : Q.Ms).n) ⟨[], 0, 0⟩ = R) := hR0
  clear hR0
  have HX : Hid (MX w b code a c ins ⟨[], 0, 0⟩ W) := hx
  have HIN : Hid (IN w a ins) := hin
  have HT : Hid (Tab w) := hT
  have hsz := M.bs_size code
  clear hx hin hT
  go_enter Tryd.func18, Tryd.ntmps18
  go_wp2_with fail
  go_loopw [4, 5, 6] (fun u4 u5 u6 wr => ∃ m : Q.Ms, m.n ≤ 300 ∧ m.place ≤ 255 ∧ MX w b code a c ins m wr ∧ Q.runF code ins (301 - m.n) m = R) (fun _ _ _ wr => leftM b wr)
  case atStart => exact ⟨⟨[], 0, 0⟩, by simp, by simp, HX.out, HR0.out⟩
  case round =>
    obtain ⟨m, hn, hp, hm, hR⟩ := hrel
    clear HX HR0
    have HL : Hid (leftM b wr = 301 - m.n) := leftM_is hm
    obtain ⟨v, hs⟩ := hm
    rw [runF_unfold code ins m hn] at hR
    have k1 := hs.m1
    have k3 := hs.m3
    have k4 := hs.m4
    by_cases h1 : m.place = code.length
    · rw [if_pos h1] at hR
      have q1 : ((m.place : Int) != (code.length : Int)) = false := by simp; omega
      subst hR
      clear HL HIN HT
      obtain ⟨st, pl, n⟩ := m
      simp only at hn hp k3 k4 h1 q1 hs
      rcases st with _ | ⟨t, st⟩
      · have e : Q.top ⟨[], pl, n⟩ = ⟨31, [], n⟩ := rfl
        rw [e]
        clear e
        have HS : Hid (∀ k, SX w b (rowM code a ins.length c pl n) [] v (wr.drewN k)) := fun k => hs.drewN k
        clear hs
        go_wp2_with fail
        go_quiet (fail)
        go_wp2_with (go_at_call 27; refine (take_nil (HS.out _)).mono ?_; rintro e w' ⟨rfl, rfl⟩)
        go_ret2
        exact ⟨rfl, ⟨[], pl, n⟩, ⟨v, HS.out _⟩, rfl⟩
      · have e : Q.top ⟨t :: st, pl, n⟩ = ⟨0, t, n⟩ := rfl
        rw [e]
        clear e
        have CT : Hid (∀ k, Calls Tryd.prog 27 #[.pointer (some ⟨b, 0, none⟩)] (wr.drewN k) fun e w' => e = .returned (.tuple #[.string (M.bs t), .bool true]) ∧ ∃ v', SX w b (rowM code a ins.length c pl n) st v' w') := fun k => by
          refine (take_cons (hs.drewN k)).mono ?_
          rintro e w' ⟨rfl, v', hw', hs'⟩
          exact ⟨rfl, v', hs'⟩
        clear hs
        go_wp2_with fail
        go_quiet (fail)
        go_wp2_with (go_at_call 27; refine (CT.out _).mono ?_; clear CT; rintro e w' ⟨rfl, v', HE⟩)
        go_ret2
        exact ⟨rfl, ⟨st, pl, n⟩, ⟨v', HE⟩, rfl⟩
    · rw [if_neg h1] at hR
      have q1 : ((m.place : Int) != (code.length : Int)) = true := by simp; omega
      have CS : Hid (∀ W, Calls Tryd.prog 21 #[.string (M.bs code), .int .i64 (m.place : Int)] W fun e w' => e = .returned (saV (Q.stepAt code m.place)) ∧ w' = W) := fun W => stepAt_at code m.place (by omega) (by omega) W
      have HS : Hid (∀ k, SX w b (rowM code a ins.length c m.place m.n) m.st v (wr.drewN k)) := fun k => hs.drewN k
      have hs0 := hs
      clear hs
      cases hst : Q.stepAt code m.place with
      | none =>
        rw [hst] at hR CS
        simp only at hR
        subst hR
        unfold saV at CS
        clear HL HIN HT hs0 hst
        go_wp2_with fail
        go_quiet (fail)
        go_wp2_with fail
        go_quiet ((go_at_call 21; exact (CS.out _).mono (fun _ _ h => ⟨h.1, _, h.2⟩)))
        go_wp2_with fail
        go_ret2
        exact ⟨rfl, m, ⟨v, HS.out _⟩, rfl⟩
      | some s =>
        rw [hst] at hR CS
        simp only at hR
        unfold saV at CS
        by_cases h3 : 300 ≤ m.n
        · rw [if_pos h3] at hR
          subst hR
          clear HL HIN HT hs0 hst
          have q3 : (300 : Int) ≤ (m.n : Int) := by omega
          go_wp2_with fail
          go_quiet (fail)
          go_wp2_with fail
          go_quiet ((go_at_call 21; exact (CS.out _).mono (fun _ _ h => ⟨h.1, _, h.2⟩)))
          go_wp2_with fail
          go_ret2
          exact ⟨rfl, m, ⟨v, HS.out _⟩, rfl⟩
        · rw [if_neg h3] at hR
          have q3 : ¬ (300 : Int) ≤ (m.n : Int) := by omega
          have HNX : Hid (Q.next m s ≤ 255) := Q.next_le hst hc
          have CD : Hid (∀ k, Calls Tryd.prog 26 #[.pointer (some ⟨b, 0, none⟩), .string (M.bs s)] (wr.drewN k) fun e w' => e = .returned (.int .i64 ((Q.step ins m s).1 : Int)) ∧ MX w b code a c ins (Q.step ins m s).2 w') := fun k =>
            do_at (hs0.drewN k) HIN.out HT.out hn (by omega) s hst (by omega)
          have HSN : Hid ((Q.step ins m s).2.n = m.n + 1) := rfl
          have HSP : Hid ((Q.step ins m s).2.place = Q.next m s) := rfl
          have HER : Hid ((Q.step ins m s).1 ≤ 100) := Q.act_le ins m.st s
          clear hs0 hst HIN HT HS
          generalize Q.step ins m s = T at *
          obtain ⟨er, m2⟩ := T
          simp only at hR CD HSN HSP HER
          by_cases h4 : er = 0
          · rw [if_pos h4] at hR
            subst h4
            have HR : Hid (Q.runF code ins (301 - m2.n) m2 = R) := hR
            clear hR
            go_wp2_with fail
            go_quiet (fail)
            go_wp2_with fail
            go_quiet ((go_at_call 21; exact (CS.out _).mono (fun _ _ h => ⟨h.1, _, h.2⟩)))
            go_wp2_with (go_at_call 26; refine (CD.out _).mono ?_; clear CD; rintro e w' ⟨rfl, HE⟩)
            go_roundw
            case rel => exact ⟨m2, by have := HSN.out; omega, by rw [HSP.out]; exact HNX.out, HE, HR.out⟩
            case measure => rw [leftM_is HE, HL.out, HSN.out]; omega
          · rw [if_neg h4] at hR
            subst hR
            have q4 : ((er : Int) != 0) = true := by simp; omega
            go_wp2_with fail
            go_quiet (fail)
            go_wp2_with fail
            go_quiet ((go_at_call 21; exact (CS.out _).mono (fun _ _ h => ⟨h.1, _, h.2⟩)))
            go_wp2_with (go_at_call 26; refine (CD.out _).mono ?_; clear CD; rintro e w' ⟨rfl, HE⟩)
            go_ret2
            exact ⟨rfl, m2, HE, rfl⟩
end Go.Proofs.YtodcafmhaleemaaDoor
