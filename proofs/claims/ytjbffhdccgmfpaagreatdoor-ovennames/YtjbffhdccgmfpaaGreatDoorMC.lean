/- The texts T12 T13 T14 T15 QM2 as one. -/
import Derived.Test.YtjbffhdccgmfpaaGreatDoorMB
import Derived.Test.YtjbffhdccgmfpaaGreatDoorArgs
/- A machine's run, and mill.Run. -/
namespace Go.Proofs.YtjbffhdccgmfpaaGreatDoor
open Go.RowKit
set_option linter.unusedVariables false

theorem Q.first_form {s x : List UInt8} (h : Q.first s = some x) : (∃ c, x = [c] ∧ Q.one c = true) ∨ (∃ c d, x = [c, d] ∧ Q.two c = true) ∨ ∃ d r, x = 112 :: d :: r := by
  unfold Q.first at h
  by_cases h0 : s = []
  · rw [if_pos h0] at h; cases h
  · rw [if_neg h0] at h
    by_cases h1 : Q.width s = 0 ∨ s.length < Q.width s
    · rw [if_pos h1] at h; cases h
    · rw [if_neg h1] at h
      have hw : ¬ Q.width s = 0 ∧ ¬ s.length < Q.width s := ⟨fun e => h1 (Or.inl e), fun e => h1 (Or.inr e)⟩
      cases h
      obtain ⟨c, r, rfl⟩ : ∃ c r, s = c :: r := by
        rcases s with _ | ⟨c, r⟩
        · exact absurd rfl h0
        · exact ⟨c, r, rfl⟩
      have hd : (c :: r).getD 0 0 = c := rfl
      obtain ⟨hw1, hw2⟩ := hw
      by_cases q1 : Q.one c = true
      · have e : Q.width (c :: r) = 1 := by unfold Q.width; rw [hd, if_pos q1]
        rw [e]
        exact Or.inl ⟨c, rfl, q1⟩
      · by_cases q2 : Q.two c = true
        · have e : Q.width (c :: r) = 2 := by unfold Q.width; rw [hd, if_neg q1, if_pos q2]
          rw [e] at hw2 ⊢
          rcases r with _ | ⟨d, r⟩
          · simp at hw2
          · exact Or.inr (Or.inl ⟨c, d, rfl, q2⟩)
        · by_cases q3 : (c == 112) = true
          · obtain rfl : c = 112 := by simpa using q3
            rcases r with _ | ⟨d, r⟩
            · have e : Q.width [112] = 2 := by decide
              rw [e] at hw2; simp at hw2
            · have e : Q.width (112 :: d :: r) = 2 + d.toNat := by
                unfold Q.width; rw [hd, if_neg q1, if_neg q2, if_pos q3, if_neg (by simp)]; rfl
              rw [e]
              refine Or.inr (Or.inr ⟨d, r.take d.toNat, ?_⟩)
              rw [Nat.add_comm]; rfl
          · have e : Q.width (c :: r) = 0 := by unfold Q.width; rw [hd, if_neg q1, if_neg q2, if_neg q3]
            exact absurd e hw1
theorem do_at {w W : World} {b : Nat} {code : List UInt8} {a : Option Addr} {c place n : Nat} {ins st : List (List UInt8)} {v : Value} (h : SX w b (rowM code a ins.length c place n) st v W) (hin : IN w a ins) (hT : Tab w) (hn : n ≤ 300) (hp : place ≤ 1000) (s : List UInt8) (hs : Q.stepAt code place = some s) (hc : code.length ≤ 1000) :
    Calls Tryz.prog 108 #[.pointer (some ⟨b, 0, none⟩), .string (M.bs s)] W fun e w' => e = .returned (.int .i64 ((Q.act ins st s).1 : Int)) ∧ ∃ v', SX w b (rowM code a ins.length c (Q.next ⟨st, place, n⟩ s) (n + 1)) (Q.act ins st s).2 v' w' := by
  have hl := (Q.first_some hs).2.1
  rw [List.length_drop] at hl
  rcases Q.first_form hs with ⟨x, rfl, hx⟩ | ⟨x, d, rfl, hx⟩ | ⟨d, r, rfl⟩
  · have hx' : x = 99 ∨ x = 100 ∨ x = 115 ∨ x = 120 ∨ x = 114 ∨ x = 104 ∨ x = 108 ∨ x = 61 := by simpa [Q.one, or_assoc] using hx
    rcases hx' with rfl | rfl | rfl | rfl | rfl | rfl | rfl | rfl
    · exact do_c h hin hT hn hp
    · exact do_d h hin hT hn hp
    · exact do_s h hin hT hn hp
    · exact do_x h hin hT hn hp
    · exact do_r h hin hT hn hp
    · exact do_h h hin hT hn hp
    · exact do_l h hin hT hn hp
    · exact do_e h hin hT hn hp
  · have hx' : x = 105 ∨ x = 116 ∨ x = 107 ∨ x = 106 ∨ x = 103 := by simpa [Q.two, or_assoc] using hx
    rcases hx' with rfl | rfl | rfl | rfl | rfl
    · exact do_i h hin hT hn hp d
    · exact do_t h hin hT hn hp d
    · exact do_k h hin hT hn hp d
    · exact do_j h hin hT hn hp d
    · exact do_g h hin hT hn hp d
  · exact do_p h hin hT hn hp d r (by simp at hl; omega)
theorem Q.next_le {code s : List UInt8} {m : Q.Ms} (hs : Q.stepAt code m.place = some s) (hc : code.length ≤ 64) : Q.next m s ≤ 255 := by
  have hl := (Q.first_some hs).2.1
  rw [List.length_drop] at hl
  have := Q.first_len hs
  have h1 := (s.getD 1 0).toNat_lt
  unfold Q.next
  repeat' split
  all_goals omega

theorem Q.put_le (st : List (List UInt8)) (t : List UInt8) : (Q.put st t).1 ≤ 100 := by
  unfold Q.put
  split
  · simp
  · split <;> simp
theorem Q.change_le (f) (st : List (List UInt8)) : (Q.change f st).1 ≤ 100 := by
  rcases st with _ | ⟨t, r⟩
  · simp [Q.change]
  · exact Q.put_le _ _
theorem Q.fold_le (f) (st : List (List UInt8)) : (Q.fold f st).1 ≤ 100 := by
  rcases st with _ | ⟨t, r⟩
  · simp [Q.fold]
  · exact Q.change_le _ _
theorem Q.double_le (st : List (List UInt8)) : (Q.double st).1 ≤ 100 := by
  rcases st with _ | ⟨t, r⟩
  · simp [Q.double]
  · exact Q.put_le _ _
theorem Q.swap_le (st : List (List UInt8)) : (Q.swap st).1 ≤ 100 := by
  rcases st with _ | ⟨t, _ | ⟨u, r⟩⟩ <;> simp [Q.swap]
theorem Q.drop_le (st : List (List UInt8)) : (Q.drop st).1 ≤ 100 := by
  rcases st with _ | ⟨t, r⟩ <;> simp [Q.drop]
theorem Q.ite_le {p : Prop} [Decidable p] {a b : Nat × List (List UInt8)} (ha : a.1 ≤ 100) (hb : b.1 ≤ 100) : (if p then a else b).1 ≤ 100 := by
  by_cases h : p
  · rw [if_pos h]; exact ha
  · rw [if_neg h]; exact hb
theorem Q.act_le (ins st : List (List UInt8)) (s : List UInt8) : (Q.act ins st s).1 ≤ 100 := by
  unfold Q.act
  simp only
  repeat' first | exact Q.put_le _ _ | exact Q.fold_le _ _ | exact Q.double_le _ | exact Q.swap_le _ | exact Q.drop_le _ | exact Q.change_le _ _ | exact (by decide : (32 : Nat) ≤ 100) | exact (by decide : (0 : Nat) ≤ 100) | refine Q.ite_le ?_ ?_

/-- a machine that is in the state m -/
def MX (w : World) (b : Nat) (code : List UInt8) (a : Option Addr) (c : Nat) (ins : List (List UInt8)) (m : Q.Ms) (W : World) : Prop := ∃ v, SX w b (rowM code a ins.length c m.place m.n) m.st v W
/-- how many steps are left, read in memory -/
def leftM (b : Nat) (W : World) : Nat := 301 - (match W.cell? ⟨b, 4, none⟩ with | some v => (intOf v).toNat | none => 0)
theorem leftM_is {w W : World} {b : Nat} {code : List UInt8} {a : Option Addr} {c : Nat} {ins : List (List UInt8)} {m : Q.Ms} (h : MX w b code a c ins m W) : leftM b W = 301 - m.n := by
  obtain ⟨v, hs⟩ := h
  unfold leftM
  rw [hs.m4]
  simp [intOf]
theorem runF_unfold (code : List UInt8) (ins : List (List UInt8)) (m : Q.Ms) (hn : m.n ≤ 300) : Q.runF code ins (301 - m.n) m = if m.place = code.length then Q.top m else match Q.stepAt code m.place with
    | none => ⟨32, [], m.n⟩
    | some s => if 300 ≤ m.n then ⟨30, [], m.n⟩ else if (Q.step ins m s).1 = 0 then Q.runF code ins (301 - (Q.step ins m s).2.n) (Q.step ins m s).2 else ⟨(Q.step ins m s).1, [], (Q.step ins m s).2.n⟩ := by
  obtain ⟨k, hk⟩ : ∃ k, 301 - m.n = k + 1 := ⟨300 - m.n, by omega⟩
  rw [hk]
  have : ∀ s, 301 - (Q.step ins m s).2.n = k := fun s => by show 301 - (m.n + 1) = k; omega
  simp only [this]
  rfl
/-- an answer of a code that is run -/
def reV (R : Q.Re) : Value := .tuple #[.string (M.bs R.blob), .int .i64 (R.code : Int)]

set_option maxRecDepth 8000 in
set_option maxHeartbeats 4000000 in
theorem run_at {w W : World} {b : Nat} {code : List UInt8} {a : Option Addr} {c : Nat} {ins : List (List UInt8)} (hx : MX w b code a c ins ⟨[], 0, 0⟩ W) (hin : IN w a ins) (hT : Tab w) (hc : code.length ≤ 64) :
    Calls Tryz.prog 90 #[.pointer (some ⟨b, 0, none⟩)] W fun e w' => e = .returned (reV (Q.runF code ins 301 ⟨[], 0, 0⟩)) ∧ ∃ m, MX w b code a c ins m w' ∧ m.n = (Q.runF code ins 301 ⟨[], 0, 0⟩).n := by
  obtain ⟨R, hR0⟩ : ∃ R, Q.runF code ins 301 ⟨[], 0, 0⟩ = R := ⟨_, rfl⟩
  rw [hR0]
  have HR0 : Hid (Q.runF code ins (301 - (⟨[], 0, 0⟩ : Q.Ms).n) ⟨[], 0, 0⟩ = R) := hR0
  clear hR0
  have HX : Hid (MX w b code a c ins ⟨[], 0, 0⟩ W) := hx
  have HIN : Hid (IN w a ins) := hin
  have HT : Hid (Tab w) := hT
  have hsz := M.bs_size code
  clear hx hin hT
  go_enter Tryz.func90, Tryz.ntmps90
  go_wp2_with fail
  go_loopw [4, 5, 6] (fun u4 u5 u6 wr => ∃ m : Q.Ms, m.n ≤ 300 ∧ m.place ≤ 255 ∧ MX w b code a c ins m wr ∧ Q.runF code ins (301 - m.n) m = R) (fun _ _ _ wr => leftM b wr)
  case atStart => exact ⟨⟨[], 0, 0⟩, by simp, by simp, HX.out, HR0.out⟩
  case round =>
    obtain ⟨m, hn, hp, hm, hR⟩ := hrel
    clear HX HR0
    have HL : Hid (leftM b wr = 301 - m.n) := leftM_is hm
    obtain ⟨v, hs⟩ := hm
    rw [runF_unfold code ins m hn] at hR
    have k1 := hs.m1
    have k3 := hs.m3
    have k4 := hs.m4
    by_cases h1 : m.place = code.length
    · rw [if_pos h1] at hR
      have q1 : ((m.place : Int) != (code.length : Int)) = false := by simp; omega
      subst hR
      clear HL HIN HT
      obtain ⟨st, pl, n⟩ := m
      simp only at hn hp k3 k4 h1 q1 hs
      rcases st with _ | ⟨t, st⟩
      · have e : Q.top ⟨[], pl, n⟩ = ⟨31, [], n⟩ := rfl
        rw [e]
        clear e
        have HS : Hid (∀ k, SX w b (rowM code a ins.length c pl n) [] v (wr.drewN k)) := fun k => hs.drewN k
        clear hs
        go_wp2_with fail
        go_quiet (fail)
        go_wp2_with (go_at_call 109; refine (take_nil (HS.out _)).mono ?_; rintro e w' ⟨rfl, rfl⟩)
        go_ret2
        exact ⟨rfl, ⟨[], pl, n⟩, ⟨v, HS.out _⟩, rfl⟩
      · have e : Q.top ⟨t :: st, pl, n⟩ = ⟨0, t, n⟩ := rfl
        rw [e]
        clear e
        have CT : Hid (∀ k, Calls Tryz.prog 109 #[.pointer (some ⟨b, 0, none⟩)] (wr.drewN k) fun e w' => e = .returned (.tuple #[.string (M.bs t), .bool true]) ∧ ∃ v', SX w b (rowM code a ins.length c pl n) st v' w') := fun k => by
          refine (take_cons (hs.drewN k)).mono ?_
          rintro e w' ⟨rfl, v', hw', hs'⟩
          exact ⟨rfl, v', hs'⟩
        clear hs
        go_wp2_with fail
        go_quiet (fail)
        go_wp2_with (go_at_call 109; refine (CT.out _).mono ?_; clear CT; rintro e w' ⟨rfl, v', HE⟩)
        go_ret2
        exact ⟨rfl, ⟨st, pl, n⟩, ⟨v', HE⟩, rfl⟩
    · rw [if_neg h1] at hR
      have q1 : ((m.place : Int) != (code.length : Int)) = true := by simp; omega
      have CS : Hid (∀ W, Calls Tryz.prog 107 #[.string (M.bs code), .int .i64 (m.place : Int)] W fun e w' => e = .returned (saV (Q.stepAt code m.place)) ∧ w' = W) := fun W => stepAt_at code m.place (by omega) (by omega) W
      have HS : Hid (∀ k, SX w b (rowM code a ins.length c m.place m.n) m.st v (wr.drewN k)) := fun k => hs.drewN k
      have hs0 := hs
      clear hs
      cases hst : Q.stepAt code m.place with
      | none =>
        rw [hst] at hR CS
        simp only at hR
        subst hR
        unfold saV at CS
        clear HL HIN HT hs0 hst
        go_wp2_with fail
        go_quiet (fail)
        go_wp2_with fail
        go_quiet ((go_at_call 107; exact (CS.out _).mono (fun _ _ h => ⟨h.1, _, h.2⟩)))
        go_wp2_with fail
        go_ret2
        exact ⟨rfl, m, ⟨v, HS.out _⟩, rfl⟩
      | some s =>
        rw [hst] at hR CS
        simp only at hR
        unfold saV at CS
        by_cases h3 : 300 ≤ m.n
        · rw [if_pos h3] at hR
          subst hR
          clear HL HIN HT hs0 hst
          have q3 : (300 : Int) ≤ (m.n : Int) := by omega
          go_wp2_with fail
          go_quiet (fail)
          go_wp2_with fail
          go_quiet ((go_at_call 107; exact (CS.out _).mono (fun _ _ h => ⟨h.1, _, h.2⟩)))
          go_wp2_with fail
          go_ret2
          exact ⟨rfl, m, ⟨v, HS.out _⟩, rfl⟩
        · rw [if_neg h3] at hR
          have q3 : ¬ (300 : Int) ≤ (m.n : Int) := by omega
          have HNX : Hid (Q.next m s ≤ 255) := Q.next_le hst hc
          have CD : Hid (∀ k, Calls Tryz.prog 108 #[.pointer (some ⟨b, 0, none⟩), .string (M.bs s)] (wr.drewN k) fun e w' => e = .returned (.int .i64 ((Q.step ins m s).1 : Int)) ∧ MX w b code a c ins (Q.step ins m s).2 w') := fun k =>
            do_at (hs0.drewN k) HIN.out HT.out hn (by omega) s hst (by omega)
          have HSN : Hid ((Q.step ins m s).2.n = m.n + 1) := rfl
          have HSP : Hid ((Q.step ins m s).2.place = Q.next m s) := rfl
          have HER : Hid ((Q.step ins m s).1 ≤ 100) := Q.act_le ins m.st s
          clear hs0 hst HIN HT HS
          generalize Q.step ins m s = T at *
          obtain ⟨er, m2⟩ := T
          simp only at hR CD HSN HSP HER
          by_cases h4 : er = 0
          · rw [if_pos h4] at hR
            subst h4
            have HR : Hid (Q.runF code ins (301 - m2.n) m2 = R) := hR
            clear hR
            go_wp2_with fail
            go_quiet (fail)
            go_wp2_with fail
            go_quiet ((go_at_call 107; exact (CS.out _).mono (fun _ _ h => ⟨h.1, _, h.2⟩)))
            go_wp2_with (go_at_call 108; refine (CD.out _).mono ?_; clear CD; rintro e w' ⟨rfl, HE⟩)
            go_roundw
            case rel => exact ⟨m2, by have := HSN.out; omega, by rw [HSP.out]; exact HNX.out, HE, HR.out⟩
            case measure => rw [leftM_is HE, HL.out, HSN.out]; omega
          · rw [if_neg h4] at hR
            subst hR
            have q4 : ((er : Int) != 0) = true := by simp; omega
            go_wp2_with fail
            go_quiet (fail)
            go_wp2_with fail
            go_quiet ((go_at_call 107; exact (CS.out _).mono (fun _ _ h => ⟨h.1, _, h.2⟩)))
            go_wp2_with (go_at_call 108; refine (CD.out _).mono ?_; clear CD; rintro e w' ⟨rfl, HE⟩)
            go_ret2
            exact ⟨rfl, m2, HE, rfl⟩
end Go.Proofs.YtjbffhdccgmfpaaGreatDoor

/- What mill.Run answers. -/
namespace Go.Proofs.YtjbffhdccgmfpaaGreatDoor
open Go.RowKit
set_option linter.unusedVariables false

def wideM (l : List (List UInt8)) : Bool := l.any (fun t => decide (512 < t.length))
theorem wideM_at {l : List (List UInt8)} {k : Nat} {t : List UInt8} (ht : l[k]? = some t) (h : 512 < t.length) : wideM l = true := by
  unfold wideM; rw [List.any_eq_true]; exact ⟨t, List.mem_of_getElem? ht, by simpa using h⟩
theorem wideM_none {l : List (List UInt8)} (h : ∀ (j : Nat) t, j < l.length → l[j]? = some t → ¬ 512 < t.length) : wideM l = false := by
  unfold wideM
  rw [List.any_eq_false]
  intro t hm
  obtain ⟨j, hj, e⟩ := List.getElem_of_mem hm
  have := h j l[j] hj (List.getElem?_eq_getElem hj)
  rw [e] at this
  simpa using this
set_option maxRecDepth 8000 in
set_option maxHeartbeats 1000000 in
theorem IndexW_at (a : Option Addr) (c : Nat) (l : List (List UInt8)) (W : World) (h : TX W a l) (hn : l.length ≤ 1000) (hl : ∀ t ∈ l, t.length ≤ 9223372036854775807) :
    Calls Tryz.prog 40 #[.slice a l.length c, .func (.func 89) #[] #[]] W fun e w' => ∃ z : Int, e = .returned (.int .i64 z) ∧ decide (0 ≤ z) = wideM l ∧ w' = W := by
  have HT : Hid (TX W a l) := h
  have HL : Hid (∀ t ∈ l, t.length ≤ 9223372036854775807) := hl
  clear h hl
  go_enter Tryz.func40, Tryz.ntmps40
  go_wp2_with fail
  go_loopw [5, 8] (fun u5 u8 wr => ∃ k : Nat, k ≤ l.length ∧ u8 = .int .i64 k ∧ wr = W ∧ ∀ (j : Nat) t, j < k → l[j]? = some t → ¬ 512 < t.length) (fun _ u8 _ => l.length - (intOf u8).toNat)
  case atStart => exact ⟨0, Nat.zero_le _, rfl, rfl, fun j t hj => by omega⟩
  case round =>
    obtain ⟨k, hk, rfl, rfl, hpre⟩ := hrel
    have HP : Hid (∀ (j : Nat) t, j < k → l[j]? = some t → ¬ 512 < t.length) := hpre
    clear hpre
    by_cases hlt : k < l.length
    · obtain ⟨t, ht⟩ : ∃ t, l[k]? = some t := ⟨l[k], List.getElem?_eq_getElem hlt⟩
      obtain ⟨sb, off, rfl, hsb, hc⟩ := HT.out k t ht
      have i0 : (0 : Int) ≤ (k : Int) := by omega
      have i1 : (k : Int) < (l.length : Int) := by omega
      have CW : Hid (Calls Tryz.prog 89 #[.string (M.bs t)] wr fun e w' => e = .returned (.bool (decide (512 < t.length))) ∧ w' = wr) := wide_is t (HL.out t (List.mem_of_getElem? ht)) wr
      by_cases hts : 512 < t.length
      · rw [decide_eq_true hts] at CW
        have HF : Hid (wideM l = true) := wideM_at ht hts
        clear hts ht
        go_wp2_with (go_at_call 89; refine CW.out.mono ?_; rintro e w' ⟨rfl, rfl⟩)
        go_ret
        exact ⟨_, rfl, by rw [HF.out]; simp, rfl⟩
      · rw [decide_eq_false hts] at CW
        have HN : Hid (∀ (j : Nat) t, j < k + 1 → l[j]? = some t → ¬ 512 < t.length) := fun j t' hj ht' => by
          rcases (by omega : j < k ∨ j = k) with h' | rfl
          · exact HP.out j t' h' ht'
          · rw [ht] at ht'; cases ht'; exact hts
        clear hts ht
        go_wp2_with (go_at_call 89; refine CW.out.mono ?_; rintro e w' ⟨rfl, rfl⟩)
        go_roundw
        case rel => exact ⟨k + 1, by omega, by go_num, (by first | exact trivial | rfl), HN.out⟩
        case measure => simp [intOf]; omega
    · obtain rfl : k = l.length := by omega
      have HF : Hid (wideM l = false) := wideM_none HP.out
      go_wp2_with fail
      go_ret
      exact ⟨_, rfl, by rw [HF.out]; rfl, rfl⟩
theorem ContainsW_at (a : Option Addr) (c : Nat) (l : List (List UInt8)) (W : World) (h : TX W a l) (hn : l.length ≤ 1000) (hl : ∀ t ∈ l, t.length ≤ 9223372036854775807) :
    Calls Tryz.prog 23 #[.slice a l.length c, .func (.func 89) #[] #[]] W fun e w' => e = .returned (.bool (wideM l)) ∧ w' = W := by
  have CI : Hid (Calls Tryz.prog 40 #[.slice a l.length c, .func (.func 89) #[] #[]] W fun e w' => ∃ z : Int, e = .returned (.int .i64 z) ∧ decide (0 ≤ z) = wideM l ∧ w' = W) := IndexW_at a c l W h hn hl
  clear h hl
  generalize wideM l = q at *
  go_enter Tryz.func23, Tryz.ntmps23
  go_wp2_with (go_at_call 40; refine CI.out.mono ?_; rintro e w' ⟨z, rfl, hz, rfl⟩)
  go_ret
  exact ⟨by first | rfl | rw [← hz]; rfl, rfl⟩

/-- an answer of mill.Run -/
def runV (R : Q.Re) : Value := .tuple #[.agg #[.int .i64 (R.code : Int), .string (M.bs R.blob)], .int .i64 (R.n : Int)]
theorem results2_rowM {P : Program} {fn : Func} {p q : Tmp} {ty : TypeId} (h : fn.results = #[.cell p ty, .tmp q]) (tmps : Array Value) (w : World) (g : Nat) (t : TypeId) (cs : Array Value) (fr : Nat × Nat) (d : TypeDesc)
    (hp : tmps.getD p undef = .pointer (some ⟨g, 0, none⟩)) (hg : w.heap[g]? = some (.cells cs t fr))
    (hu : P.underlying ty = some d) (hd : (match d with | .struct _ | .array _ _ => true | _ => false) = true) (hi : (P.info? ty).map (·.size) = some cs.size) :
    (results fn tmps).run P w = .ok (.tuple #[.agg cs, tmps.getD q undef]) w := by
  have hp' : tmps[p]?.getD undef = .pointer (some ⟨g, 0, none⟩) := by simpa using hp
  simp [results, h, hp', asAddr, run_loadVar_row w g t ty cs fr d hg hu hd hi]
theorem GB.set {w W : World} {b : Nat} (h : GB w W) (h1 : w.heap.size ≤ b) (h2 : 2 ≤ b) (i : Nat) (v : Value) : GB w (W.setCell ⟨b, i, none⟩ v) :=
  ⟨h.g.below (Below.setCell (Below.refl b W) (Nat.le_refl _) _) h2, h.b.trans (Below.setCell (Below.refl _ W) h1 _)⟩
theorem GB.drew {w W : World} (h : GB w W) : GB w W.drew := h.step (Below.refl _ _).drew
theorem infoRes : (Tryz.prog.info? 47).map (·.size) = some 2 := by kernel_rfl
theorem undRes : ∃ fs, Tryz.prog.underlying 47 = some (.struct fs) := ⟨_, Tryz.underlying47⟩
set_option maxRecDepth 8000 in
set_option maxHeartbeats 2000000 in
theorem Run_at {w W : World} (code : List UInt8) (ins : List (List UInt8)) (a : Option Addr) (c : Nat) (hg : GB w W) (hT : Tab W) (hx : TX W a ins) (hl : code.length ≤ 9223372036854775807) (hn : ins.length ≤ 9223372036854775807) (hil : ∀ t ∈ ins, t.length ≤ 9223372036854775807) :
    Calls Tryz.prog 65 #[.string (M.bs code), .slice a ins.length c] W fun e w' => e = .returned (runV (Q.run code ins)) ∧ GB w w' := by
  have hs := M.bs_size code
  obtain ⟨fs, hum⟩ := undRes
  have HG : Hid (GB w (W.alloc (.cells #[.int .i64 4, .string ⟨#[]⟩] 47))) := hg.alloc _
  by_cases h1 : 64 < code.length
  · have e : Q.run code ins = ⟨4, [], 0⟩ := by unfold Q.run; rw [if_pos (Or.inl h1)]
    rw [e]
    clear e hg hx hil hT
    go_enter Tryz.func65, Tryz.ntmps65
    go_wp2_with fail
    refine bodyPost_ret (results2_rowM rfl _ _ W.heap.size 47 _ (0, 0) _ rfl (heap_alloc_new _ _) hum rfl infoRes) rfl ?_
    exact ⟨rfl, HG.out⟩
  · by_cases h2 : 4 < ins.length
    · have e : Q.run code ins = ⟨4, [], 0⟩ := by unfold Q.run; rw [if_pos (Or.inr (Or.inl h2))]
      rw [e]
      clear e hg hx hil hT
      go_enter Tryz.func65, Tryz.ntmps65
      go_wp2_with fail
      refine bodyPost_ret (results2_rowM rfl _ _ W.heap.size 47 _ (0, 0) _ rfl (heap_alloc_new _ _) hum rfl infoRes) rfl ?_
      exact ⟨rfl, HG.out⟩
    · obtain ⟨W0, hW0⟩ : ∃ W0, W0 = W.alloc (.cells #[.int .i64 0, .string ⟨#[]⟩] 47) := ⟨_, rfl⟩
      have hb0 : Below W.heap.size W W0 := by rw [hW0]; exact (Below.refl _ W).alloc (Nat.le_refl _) _
      have hsz0 : W0.heap.size = W.heap.size + 1 := by rw [hW0]; simp
      have hx0 : TX W0 a ins := fun i t ht => by
        obtain ⟨sb, off, h3, h4, h5⟩ := hx i t ht
        exact ⟨sb, off, h3, by omega, by rw [hb0.cell (p := ⟨sb, off + i, none⟩) h4]; exact h5⟩
      have CC : Hid (Calls Tryz.prog 23 #[.slice a ins.length c, .func (.func 89) #[] #[]] (W.alloc (.cells #[.int .i64 0, .string ⟨#[]⟩] 47)) fun e w' => e = .returned (.bool (wideM ins)) ∧ w' = W.alloc (.cells #[.int .i64 0, .string ⟨#[]⟩] 47)) := by
        rw [← hW0]; exact ContainsW_at a c ins W0 hx0 (by omega) hil
      cases h3 : wideM ins with
      | true =>
        have e : Q.run code ins = ⟨4, [], 0⟩ := by unfold Q.run; rw [if_pos (Or.inr (Or.inr (show (ins.any fun t => decide (512 < t.length)) = true from h3)))]
        rw [e]
        rw [h3] at CC
        clear e hg hx hil hT hW0 hb0 hsz0 hx0 h3
        go_enter Tryz.func65, Tryz.ntmps65
        go_wp2_with (go_at_call 23; refine CC.out.mono ?_; clear CC; rintro e w' ⟨rfl, rfl⟩)
        refine bodyPost_ret (results2_rowM rfl _ _ W.heap.size 47 _ (0, 0) _ rfl (heap_alloc_new _ _) hum rfl infoRes) rfl ?_
        exact ⟨rfl, HG.out⟩
      | false =>
        have e : Q.run code ins = Q.runF code ins 301 ⟨[], 0, 0⟩ := by
          unfold Q.run
          rw [if_neg]
          rintro (h | h | h)
          · exact h1 h
          · exact h2 h
          · unfold wideM at h3; rw [h] at h3; cases h3
        rw [e]
        rw [h3] at CC
        have hil2 : ∀ t ∈ ins, t.length ≤ 512 := fun t ht => by
          unfold wideM at h3
          rw [List.any_eq_false] at h3
          have := h3 t ht
          simp at this; omega
        have hG0 : GW W0 := by rw [hW0]; exact (hg.alloc _).g
        have hT0 : Tab W0 := hT.below hb0
        have hz := hG0.z
        obtain ⟨W1, hW1⟩ : ∃ W1, W1 = W0.alloc (.cells #[.slice none 0 0, .string (M.bs code), .slice a ins.length c, .int .i64 0, .int .i64 0] 150) := ⟨_, rfl⟩
        have hm : MX W0 W0.heap.size code a c ins ⟨[], 0, 0⟩ W1 := by
          refine ⟨.slice none 0 0, ?_, World.ownsRow_nil _ _ _ _, ?_, Nat.le_refl _, hz, ?_⟩
          · rw [hW1]; exact heap_alloc_new _ _
          · rw [hW1]; exact (GB.refl hG0).alloc _
          · exact ⟨by simp, fun t ht => by cases ht⟩
        have hz1 : w.heap.size ≤ W.heap.size := hg.b.size
        have hz2 : 2 ≤ W.heap.size := hg.g.z
        have HGW : Hid (∀ W2, GB W0 W2 → GB w W2) := fun W2 h => by
          refine ⟨h.g, hg.b.trans ((hb0.mono (hg.b.size)).trans (h.b.mono ?_))⟩
          have := hg.b.size
          omega
        have hrow0 : W0.heap[W.heap.size]? = some (.cells #[.int .i64 0, .string ⟨#[]⟩] 47 (0, 0)) := by rw [hW0]; exact heap_alloc_new _ _
        have CR : Hid (Calls Tryz.prog 90 #[.pointer (some ⟨W.heap.size + 1, 0, none⟩)] ((W.alloc (.cells #[.int .i64 0, .string ⟨#[]⟩] 47)).alloc (.cells #[.slice none 0 0, .string (M.bs code), .slice a ins.length c, .int .i64 0, .int .i64 0] 150)) fun e w' => e = .returned (reV (Q.runF code ins 301 ⟨[], 0, 0⟩)) ∧ w'.cell? ⟨W.heap.size + 1, 4, none⟩ = some (.int .i64 ((Q.runF code ins 301 ⟨[], 0, 0⟩).n : Int)) ∧ w'.heap[W.heap.size]? = some (.cells #[.int .i64 0, .string ⟨#[]⟩] 47 (0, 0)) ∧ GB W0 w') := by
          rw [← hW0, ← hW1]
          rw [hsz0] at hm
          refine (run_at hm ⟨hx0, by omega, hil2⟩ hT0 (by omega)).mono ?_
          rintro e w' ⟨rfl, m, ⟨v, hs'⟩, hmn⟩
          refine ⟨rfl, by rw [hs'.m4, hmn], ?_, hs'.g⟩
          rw [hs'.g.b.block _ (by omega)]; exact hrow0
        generalize Q.runF code ins 301 ⟨[], 0, 0⟩ = R at *
        unfold reV at CR
        clear e hg hx hil hT hb0 hx0 h3 hil2 hG0 hT0 hm hrow0 hW1 hW0 HG hz hsz0
        go_enter Tryz.func65, Tryz.ntmps65
        go_wp2_with (first
          | (go_at_call 23; refine CC.out.mono ?_; clear CC; rintro e w' ⟨rfl, rfl⟩)
          | (go_at_call 90; refine CR.out.mono ?_; clear CR; rintro e w' ⟨rfl, k4, hrow, HE⟩))
        have r0 : w'.cell? ⟨W.heap.size, 0, none⟩ = some (.int .i64 0) := by simp [World.cell?, hrow]
        have r1 : w'.cell? ⟨W.heap.size, 1, none⟩ = some (.string ⟨#[]⟩) := by simp [World.cell?, hrow]
        have f0 := frozen_rowM hrow
        have HRW : Hid _ := hrow
        clear hrow
        go_region
        go_wp2_with fail
        refine bodyPost_ret (results2_rowM rfl _ _ W.heap.size 47 _ (0, 0) _ rfl (heap_setCell_rowM (heap_setCell_rowM HRW.out)) hum rfl infoRes) rfl ?_
        refine ⟨rfl, ?_⟩
        exact (((HGW.out _ HE).set hz1 hz2 0 _).set hz1 hz2 1 _).drew
end Go.Proofs.YtjbffhdccgmfpaaGreatDoor

/- What mill.Steps answers. -/
namespace Go.Proofs.YtjbffhdccgmfpaaGreatDoor
open Go.RowKit
set_option linter.unusedVariables false

/-- what Steps answers of a code that isn't too long -/
def StPM (code : List UInt8) (W : World) (e : Ending) (w' : World) : Prop :=
  match Q.parse code with
  | none => e = .returned (.tuple #[.slice none 0 0, .int .i64 32]) ∧ Below W.heap.size W w'
  | some l => ∃ a c, e = .returned (.tuple #[.slice a l.length c, .int .i64 0]) ∧ Strs w'.heap.size w' (.slice a l.length c) l ∧ l.length ≤ c ∧ Below W.heap.size W w'
theorem StPM.none {code : List UInt8} {W w' : World} (h : Q.parse code = none) (hb : Below W.heap.size W w') : StPM code W (.returned (.tuple #[.slice none 0 0, .int .i64 32])) w' := by
  unfold StPM; rw [h]; exact ⟨rfl, hb⟩
theorem StPM.some {code : List UInt8} {W w' : World} {l : List (List UInt8)} {a : Option Addr} {c : Nat} (h : Q.parse code = some l) (hs : Strs w'.heap.size w' (.slice a l.length c) l) (hc : l.length ≤ c) (hb : Below W.heap.size W w') : StPM code W (.returned (.tuple #[.slice a l.length c, .int .i64 0])) w' := by
  unfold StPM; rw [h]; exact ⟨a, c, rfl, hs, hc, hb⟩
theorem owns_capM {w : World} {N k n c : Nat} {e : TypeId} {a : Option Addr} {xs : List Value} (h : w.ownsRow N e k (.slice a n c) n xs) : n ≤ c := by
  obtain ⟨_, ⟨h1, h2⟩ | ⟨g, cap, cur, h1, _, _, h4, _⟩⟩ := h
  · omega
  · simp only [Value.slice.injEq] at h1
    omega
end Go.Proofs.YtjbffhdccgmfpaaGreatDoor

/- The law's own 'awake' is true. -/
namespace Go.Proofs.YtjbffhdccgmfpaaGreatDoor
open Go.RowKit
set_option linter.unusedVariables false

theorem run_ex1 : Q.run [105, 0, 105, 1, 99] [[97, 98], [99, 100]] = ⟨0, [97, 98, 99, 100], 3⟩ := by kernel_rfl
theorem run_ex2 : Q.run [103, 0] [] = ⟨30, [], 300⟩ := by kernel_rfl
theorem parse_ex : Q.parse [112, 2, 103, 111, 120] = some [[112, 2, 103, 111], [120]] := by kernel_rfl
theorem Run_b {w W : World} (code : List UInt8) (ins : List (List UInt8)) (a : Option Addr) (c : Nat) (hg : GB w W) (hT : Tab w) (hx : TX W a ins) (hl : code.length ≤ 9223372036854775807) (hn : ins.length ≤ 9223372036854775807) (hil : ∀ t ∈ ins, t.length ≤ 9223372036854775807) :
    Calls Tryz.prog 65 #[.string (M.bs code), .slice a ins.length c] W fun e w' => e = .returned (runV (Q.run code ins)) ∧ GB w w' ∧ Below W.heap.size W w' := by
  refine (Run_at code ins a c (GB.refl hg.g) (hT.below hg.b) hx hl hn hil).mono ?_
  rintro e w' ⟨rfl, h⟩
  exact ⟨rfl, hg.step h.b, h.b⟩
/-- a result in memory, kept -/
def ResAt (g : Nat) (code : Nat) (blob : List UInt8) (W : World) : Prop := W.cell? ⟨g, 0, none⟩ = some (.int .i64 (code : Int)) ∧ W.cell? ⟨g, 1, none⟩ = some (.string (M.bs blob))
theorem ResAt.new (W : World) (code : Nat) (blob : List UInt8) : ResAt W.heap.size code blob (W.alloc (.cells #[.int .i64 (code : Int), .string (M.bs blob)] 47)) :=
  ⟨by rw [cell_of_row _ _ _ _ _ _ (heap_alloc_new _ _)]; rfl, by rw [cell_of_row _ _ _ _ _ _ (heap_alloc_new _ _)]; rfl⟩
theorem ResAt.below {g code : Nat} {blob : List UInt8} {W W' : World} (h : ResAt g code blob W) (hb : Below W.heap.size W W') : ResAt g code blob W' := by
  have hg : g < W.heap.size := block_lt h.1
  exact ⟨by rw [hb.cell (p := ⟨g, 0, none⟩) hg]; exact h.1, by rw [hb.cell (p := ⟨g, 1, none⟩) hg]; exact h.2⟩
theorem TX.nil (W : World) (a : Option Addr) : TX W a [] := fun i t ht => by simp at ht
theorem tx_two (W : World) (x y : List UInt8) (T : TypeId) : TX (W.alloc (.cells #[.string (M.bs x), .string (M.bs y)] T)) (some ⟨W.heap.size, 0, none⟩) [x, y] := fun i t ht => by
  refine ⟨W.heap.size, 0, rfl, by simp, ?_⟩
  rw [cell_of_row _ _ _ _ _ _ (heap_alloc_new _ _)]
  rcases i with _ | _ | i
  · simp at ht; subst ht; rfl
  · simp at ht; subst ht; rfl
  · simp at ht
end Go.Proofs.YtjbffhdccgmfpaaGreatDoor

/- What every code comes to: a bound of steps, a blob or a code. -/
namespace Go.Proofs.YtjbffhdccgmfpaaGreatDoor.Q

/-- the codes that a step can answer -/
def isC (c : Nat) : Prop := c = 0 ∨ c = 31 ∨ c = 32 ∨ c = 33
theorem put_c (st : List (List UInt8)) (t : List UInt8) : isC (put st t).1 := by
  unfold put isC
  split
  · simp
  · split <;> simp
theorem change_c (f) (st : List (List UInt8)) : isC (change f st).1 := by
  rcases st with _ | ⟨t, r⟩
  · simp [change, isC]
  · exact put_c _ _
theorem fold_c (f) (st : List (List UInt8)) : isC (fold f st).1 := by
  rcases st with _ | ⟨t, r⟩
  · simp [fold, isC]
  · exact change_c _ _
theorem double_c (st : List (List UInt8)) : isC (double st).1 := by
  rcases st with _ | ⟨t, r⟩
  · simp [double, isC]
  · exact put_c _ _
theorem swap_c (st : List (List UInt8)) : isC (swap st).1 := by
  rcases st with _ | ⟨t, _ | ⟨u, r⟩⟩ <;> simp [swap, isC]
theorem drop_c (st : List (List UInt8)) : isC (drop st).1 := by
  rcases st with _ | ⟨t, r⟩ <;> simp [drop, isC]
theorem ite_c {p : Prop} [Decidable p] {a b : Nat × List (List UInt8)} (ha : isC a.1) (hb : isC b.1) : isC (if p then a else b).1 := by
  by_cases h : p
  · rw [if_pos h]; exact ha
  · rw [if_neg h]; exact hb
theorem act_c (ins st : List (List UInt8)) (s : List UInt8) : isC (act ins st s).1 := by
  unfold act
  simp only
  repeat' first | exact put_c _ _ | exact fold_c _ _ | exact double_c _ | exact swap_c _ | exact drop_c _ | exact change_c _ _ | exact (by simp [isC] : isC 32) | exact (by simp [isC] : isC 0) | refine ite_c ?_ ?_

/-- what a code comes to is a blob or a code, in at most 300 steps -/
structure Good (R : Re) : Prop where
  n : R.n ≤ 300
  l : R.blob.length ≤ 512
  e : R.code ≠ 0 → R.blob = []
  c : R.code = 0 ∨ R.code = 4 ∨ R.code = 31 ∨ R.code = 32 ∨ R.code = 30 ∨ R.code = 33
  f : R.code = 30 → R.n = 300
theorem good_top {m : Ms} (hn : m.n ≤ 300) (ho : Oks m.st) : Good (top m) := by
  obtain ⟨st, p, n⟩ := m
  rcases st with _ | ⟨t, st⟩
  · exact ⟨hn, by simp [top], fun _ => rfl, by simp [top], fun h => by simp [top] at h⟩
  · exact ⟨hn, ho.2 t (by simp), fun h => absurd rfl h, by simp [top], fun h => by simp [top] at h⟩
theorem good_runF (code : List UInt8) (ins : List (List UInt8)) : ∀ (k : Nat) (m : Ms), m.n + k = 301 → 0 < k → Oks m.st → Good (runF code ins k m) := by
  intro k
  induction k with
  | zero => intro m _ h; omega
  | succ k ih =>
    intro m hk _ ho
    unfold runF
    by_cases h1 : m.place = code.length
    · rw [if_pos h1]; exact good_top (by omega) ho
    · rw [if_neg h1]
      cases hs : stepAt code m.place with
      | none => exact ⟨by simp; omega, by simp, fun _ => rfl, by simp, fun h => by simp at h⟩
      | some s =>
        simp only
        by_cases h2 : 300 ≤ m.n
        · rw [if_pos h2]; exact ⟨by simp; omega, by simp, fun _ => rfl, by simp, fun _ => by simp; omega⟩
        · rw [if_neg h2]
          by_cases h3 : (step ins m s).1 = 0
          · rw [if_pos h3]
            refine ih _ ?_ (by omega) (act_ok ho s)
            show m.n + 1 + k = 301
            omega
          · rw [if_neg h3]
            have hc := act_c ins m.st s
            have hc' : isC (step ins m s).1 := hc
            refine ⟨by show m.n + 1 ≤ 300; omega, by simp, fun _ => rfl, ?_, fun h => ?_⟩
            · simp only
              rcases hc' with h | h | h | h <;> simp [h]
            · simp only at h
              rcases hc' with h' | h' | h' | h' <;> rw [h'] at h <;> omega
theorem good_run (code : List UInt8) (ins : List (List UInt8)) : Good (run code ins) := by
  unfold run
  split
  · exact ⟨by simp, by simp, fun _ => rfl, by simp, fun h => by simp at h⟩
  · exact good_runF code ins 301 _ rfl (by omega) ⟨by simp, fun t ht => by cases ht⟩
end Go.Proofs.YtjbffhdccgmfpaaGreatDoor.Q
