/- What a fate leaves; Write, Read, Sync. -/
import Derived.Test.YtgnajmiccbcacaaDoorH2
namespace Go.Proofs.YtgnajmiccbcacaaDoor
open Go.RowKit
set_option linter.unusedVariables false

theorem bs_cat (a b : List UInt8) : M.bs a ++ M.bs b = M.bs (a ++ b) := by
  apply ByteArray.ext
  simp [M.bs]
theorem take_bsH (s : List UInt8) (n : Nat) : (M.bs s).extract 0 n = M.bs (s.take n) := by
  rw [Lib.extract_eq]; simp [M.bs]
theorem drop_bsH (r : List UInt8) (n : Nat) : (M.bs r).extract n (M.bs r).size = M.bs (r.drop n) := by
  rw [Lib.extract_eq]
  simp [M.bs, ByteArray.size]
  exact List.take_of_length_le (by simp)
theorem rem_bounds (n m : Int) (h : 0 < m) : 0 ≤ H.rem n m ∧ H.rem n m < m := by
  have b1 : -m < n.tmod m := Int.lt_tmod_of_pos n h
  have b2 : n.tmod m < m := Int.tmod_lt_of_pos n h
  unfold H.rem
  split <;> omega

set_option maxHeartbeats 1000000 in
theorem left_at {w W : World} {b c : Nat} {st : H.Sh} {s : H.Sl} {i : Nat} (h : SW w b c st W) (hs : st.sl[i]? = some s) (h1 : s.text.length ≤ 640) (h2 : s.sure.length ≤ 640) (f : Int) (f1 : -9223372036854775808 ≤ f) (f2 : f ≤ 9223372036854775807) :
    Calls Tryd.prog 42 #[.pointer (some ⟨c, i * 3, none⟩), .int .i64 f] W fun e w' => e = .returned (.string (M.bs (H.left s f))) ∧ ∃ n, w' = W.drewN n := by
  have k0 := h.t0 hs
  have k1 := h.t1 hs
  obtain ⟨r1, r2⟩ := rem_bounds f 3 (by omega)
  have C1 : Hid (∀ W', Calls Tryd.prog 59 #[.int .i64 f, .int .i64 3] W' fun e w' => e = .returned (.int .i64 (H.rem f 3)) ∧ w' = W') := fun W' => remainder_at f 3 f1 f2 (by omega) (by omega) W'
  clear h hs
  unfold H.left
  rcases (by omega : H.rem f 3 = 0 ∨ H.rem f 3 = 1 ∨ H.rem f 3 = 2) with e | e | e
  · rw [if_pos e]
    rw [e] at C1
    clear r1 r2 e
    go_enter Tryd.func42, Tryd.ntmps42
    go_wp2_with (go_at_call 59; refine (C1.out _).mono ?_; rintro e w' ⟨rfl, rfl⟩)
    go_ret
    exact ⟨rfl, 0, rfl⟩
  · rw [if_neg (by omega), if_pos e]
    rw [e] at C1
    clear r1 r2 e
    go_enter Tryd.func42, Tryd.ntmps42
    go_wp2_with (go_at_call 59; refine (C1.out _).mono ?_; rintro e w' ⟨rfl, rfl⟩)
    go_ret
    exact ⟨rfl, 0, rfl⟩
  · rw [if_neg (by omega), if_neg (by omega)]
    rw [e] at C1
    clear r1 r2 e
    have hd : -9223372036854775808 ≤ f.tdiv 3 ∧ f.tdiv 3 ≤ 9223372036854775807 := by
      have : (f.tdiv 3).natAbs = f.natAbs / 3 := by rw [Int.natAbs_tdiv]; rfl
      omega
    obtain ⟨r1, r2⟩ := rem_bounds (f.tdiv 3) ((s.text.length : Int) + 1) (by omega)
    have C2 : Hid (∀ W', Calls Tryd.prog 59 #[.int .i64 (f.tdiv 3), .int .i64 ((s.text.length : Int) + 1)] W' fun e w' => e = .returned (.int .i64 (H.rem (f.tdiv 3) ((s.text.length : Int) + 1))) ∧ w' = W') := fun W' => remainder_at _ _ hd.1 hd.2 (by omega) (by omega) W'
    obtain ⟨n, hn⟩ : ∃ n : Nat, H.rem (f.tdiv 3) ((s.text.length : Int) + 1) = (n : Int) := ⟨_, (Int.toNat_of_nonneg r1).symm⟩
    rw [hn] at C2 r1 r2 ⊢
    rw [Int.toNat_natCast]
    obtain ⟨d1, d2⟩ := hd
    have z1 := M.bs_size s.text
    have z2 := M.bs_size s.sure
    have t1 := take_bsH s.text n
    have hnn : ((n : Int)).toNat = n := by omega
    have hle : (n : Int) ≤ (s.text.length : Int) := by omega
    clear hn r2
    by_cases hm : n ≤ s.sure.length
    · have t2 := drop_bsH s.sure n
      rw [z2] at t2
      have hap := bs_cat (s.text.take n) (s.sure.drop n)
      have y1 := M.bs_size (s.text.take n)
      have y2 := M.bs_size (s.sure.drop n)
      have hmi : (n : Int) ≤ (s.sure.length : Int) := by omega
      go_enter Tryd.func42, Tryd.ntmps42
      go_wp2_with (first
        | (go_at_call 59; refine (C1.out _).mono ?_; clear C1; rintro e w' ⟨rfl, rfl⟩)
        | (go_at_call 59; refine (C2.out _).mono ?_; rintro e w' ⟨rfl, rfl⟩))
      go_quiet (fail)
      go_wp2_with fail
      go_ret
      exact ⟨rfl, _, rfl⟩
    · have t2 := drop_bsH s.sure s.sure.length
      rw [z2] at t2
      rw [List.drop_length] at t2
      have e : s.text.take n ++ s.sure.drop n = s.text.take n := by rw [List.drop_of_length_le (by omega), List.append_nil]
      rw [e]
      clear e
      have hap := bs_cat (s.text.take n) []
      rw [List.append_nil] at hap
      have y1 := M.bs_size (s.text.take n)
      have y2 := M.bs_size ([] : List UInt8)
      have hmi : (s.sure.length : Int) < (n : Int) := by omega
      go_enter Tryd.func42, Tryd.ntmps42
      go_wp2_with (first
        | (go_at_call 59; refine (C1.out _).mono ?_; clear C1; rintro e w' ⟨rfl, rfl⟩)
        | (go_at_call 59; refine (C2.out _).mono ?_; rintro e w' ⟨rfl, rfl⟩))
      go_quiet (fail)
      go_wp2_with fail
      go_ret
      exact ⟨rfl, _, rfl⟩

/-- all texts are of 640 bytes at most, and there are so many slots at most -/
structure Sm (st : H.Sh) : Prop where
  n : st.sl.length ≤ 128
  t : ∀ (i : Nat) (s : H.Sl), st.sl[i]? = some s → s.text.length ≤ 640 ∧ s.sure.length ≤ 640
  a : st.acts ≤ 1000000
  l : st.life ≤ 1000000
  m : st.arm ≤ 9223372036854775807

theorem Read_at {w W : World} {b c : Nat} {st : H.Sh} {s : H.Sl} {i : Nat} (h : SW w b c st W) (hs : st.sl[i]? = some s) (hn : st.sl.length ≤ 128) (ho : st.off = false) :
    Calls Tryd.prog 51 #[.pointer (some ⟨b, 0, none⟩), .int .i64 (i : Int)] W fun e w' => e = .returned (.tuple #[.string (M.bs s.text), .int .i64 0]) ∧ ∃ n, w' = W.drewN n := by
  have k0 := h.t0 hs
  have k4 := h.c4
  have hi : i < st.sl.length := (List.getElem?_eq_some_iff.1 hs).1
  have e : slotE st (i : Int) = 0 := by unfold slotE; rw [ho, if_neg (by simp), if_pos (by omega)]
  have C1 := reachSlot_at h (i : Int) hn
  rw [e] at C1
  have C : Hid (Calls Tryd.prog 43 #[.pointer (some ⟨b, 0, none⟩), .int .i64 (i : Int)] W fun e w' => e = .returned (.int .i64 0) ∧ ∃ n, w' = W.drewN n) := C1
  clear h hs C1 ho
  clear e
  have i0 : (0 : Int) ≤ (i : Int) := by omega
  have i1 : (i : Int) < (st.sl.length : Int) := by omega
  go_enter Tryd.func51, Tryd.ntmps51
  go_wp2_with (go_at_call 43; refine C.out.mono ?_; rintro e w' ⟨rfl, n, rfl⟩)

  go_ret2
  exact ⟨rfl, n, rfl⟩
theorem Read_down {w W : World} {b c : Nat} {st : H.Sh} (h : SW w b c st W) (x : Int) (hn : st.sl.length ≤ 128) (he : slotE st x ≠ 0) :
    Calls Tryd.prog 51 #[.pointer (some ⟨b, 0, none⟩), .int .i64 x] W fun e w' => e = .returned (.tuple #[.string ⟨#[]⟩, .int .i64 (slotE st x)]) ∧ ∃ n, w' = W.drewN n := by
  have C : Hid (Calls Tryd.prog 43 #[.pointer (some ⟨b, 0, none⟩), .int .i64 x] W fun e w' => e = .returned (.int .i64 (slotE st x)) ∧ ∃ n, w' = W.drewN n) := reachSlot_at h x hn
  clear h
  have q : (slotE st x != 0) = true := by simpa using he
  generalize slotE st x = y at *
  clear he
  go_enter Tryd.func51, Tryd.ntmps51
  go_wp2_with (go_at_call 43; refine C.out.mono ?_; rintro e w' ⟨rfl, n, rfl⟩)
  go_ret2
  exact ⟨rfl, n, rfl⟩
/-- Write: refused -/
theorem Write_no {w W : World} {b c : Nat} {st : H.Sh} (h : SW w b c st W) (x : Int) (t : ByteArray) (hn : st.sl.length ≤ 128) (he : slotE st x ≠ 0) :
    Calls Tryd.prog 15 #[.pointer (some ⟨b, 0, none⟩), .int .i64 x, .string t] W fun e w' => e = .returned (.int .i64 (slotE st x)) ∧ ∃ n, w' = W.drewN n := by
  have C : Hid (Calls Tryd.prog 43 #[.pointer (some ⟨b, 0, none⟩), .int .i64 x] W fun e w' => e = .returned (.int .i64 (slotE st x)) ∧ ∃ n, w' = W.drewN n) := reachSlot_at h x hn
  clear h
  have q : (slotE st x != 0) = true := by simpa using he
  generalize slotE st x = y at *
  clear he
  go_enter Tryd.func15, Tryd.ntmps15
  go_wp2_with (go_at_call 43; refine C.out.mono ?_; rintro e w' ⟨rfl, n, rfl⟩)
  go_ret
  exact ⟨rfl, n, rfl⟩
/-- Write: too long -/
theorem Write_long {w W : World} {b c : Nat} {st : H.Sh} (h : SW w b c st W) (x : Int) (t : ByteArray) (hn : st.sl.length ≤ 128) (he : slotE st x = 0) (ht : 640 < t.size) (ht2 : t.size ≤ maxLen) :
    Calls Tryd.prog 15 #[.pointer (some ⟨b, 0, none⟩), .int .i64 x, .string t] W fun e w' => e = .returned (.int .i64 1) ∧ ∃ n, w' = W.drewN n := by
  have C1 := reachSlot_at h x hn
  rw [he] at C1
  have C : Hid (Calls Tryd.prog 43 #[.pointer (some ⟨b, 0, none⟩), .int .i64 x] W fun e w' => e = .returned (.int .i64 0) ∧ ∃ n, w' = W.drewN n) := C1
  clear h C1 he
  have hmx : maxLen ≤ 9223372036854775807 := by decide
  have ht' : (640 : Int) < (t.size : Int) := by omega
  have ht2' : (t.size : Int) ≤ 9223372036854775807 := by omega
  clear ht2 hmx ht
  go_enter Tryd.func15, Tryd.ntmps15
  go_wp2_with (go_at_call 43; refine C.out.mono ?_; rintro e w' ⟨rfl, n, rfl⟩)
  go_ret
  exact ⟨rfl, n, rfl⟩
def actE (st : H.Sh) : Int := if st.arm = 1 then 10 else 0
set_option maxHeartbeats 1000000 in
/-- Write: done, or the power goes in it -/
theorem Write_at {w W : World} {b c : Nat} {st : H.Sh} {s : H.Sl} {i : Nat} (h : SW w b c st W) (hs : st.sl[i]? = some s) (hm : Sm st) (ho : st.off = false) (t : List UInt8) (ht : t.length ≤ 640) :
    Calls Tryd.prog 15 #[.pointer (some ⟨b, 0, none⟩), .int .i64 (i : Int), .string (M.bs t)] W fun e w' => e = .returned (.int .i64 (actE st)) ∧ SW w b c (H.act (H.put st i t)) w' := by
  have k0 := h.t0 hs
  have k2 := h.t2 hs
  have k4 := h.c4
  have f := h.fc
  have hi : i < st.sl.length := (List.getElem?_eq_some_iff.1 hs).1
  have e : slotE st (i : Int) = 0 := by unfold slotE; rw [ho, if_neg (by simp), if_pos (by omega)]
  have C1 := reachSlot_at h (i : Int) hm.n
  rw [e] at C1
  have C : Hid (Calls Tryd.prog 43 #[.pointer (some ⟨b, 0, none⟩), .int .i64 (i : Int)] W fun e w' => e = .returned (.int .i64 0) ∧ ∃ n, w' = W.drewN n) := C1
  have CA : Hid (∀ W2, SW w b c (H.put st i t) W2 → Calls Tryd.prog 44 #[.pointer (some ⟨b, 0, none⟩)] W2 fun e w' => e = .returned (.bool (H.lasts st)) ∧ SW w b c (H.act (H.put st i t)) w') := fun W2 h2 =>
    act_at (st := H.put st i t) h2 ho hm.l hm.a hm.m
  have HT : Hid (∀ W1, SW w b c st W1 → SW w b c (H.put st i t) ((W1.setCell ⟨c, i * 3, none⟩ (.string (M.bs t))).setCell ⟨c, i * 3 + 2, none⟩ (.bool true))) := fun W1 h1 => h1.two hs t
  have HH : Hid (SW w b c st W) := h
  clear h hs C1
  clear e
  have z := M.bs_size t
  have i0 : (0 : Int) ≤ (i : Int) := by omega
  have hn := hm.n
  have i1 : (i : Int) < (st.sl.length : Int) := by omega
  unfold actE
  by_cases ha : st.arm = 1
  · have el : H.lasts st = false := by simp [H.lasts, ha]
    rw [if_pos ha]
    rw [el] at CA
    clear hm ho ha el
    go_enter Tryd.func15, Tryd.ntmps15
    go_wp2_with (first
      | (go_at_call 43; refine C.out.mono ?_; rintro e w' ⟨rfl, n, rfl⟩))
    go_region
    go_wp2_with (go_at_call 44; refine (CA.out _ (by first | exact HT.out _ (HH.out.drewN n).drew | exact (HT.out _ (HH.out.drewN n)).drew)).mono ?_; rintro e w' ⟨rfl, HG⟩)
    go_ret
    exact ⟨rfl, HG⟩
  · have el : H.lasts st = true := by simp [H.lasts, ha]
    rw [if_neg ha]
    rw [el] at CA
    clear hm ho ha el
    go_enter Tryd.func15, Tryd.ntmps15
    go_wp2_with (first
      | (go_at_call 43; refine C.out.mono ?_; rintro e w' ⟨rfl, n, rfl⟩))
    go_region
    go_wp2_with (go_at_call 44; refine (CA.out _ (by first | exact HT.out _ (HH.out.drewN n).drew | exact (HT.out _ (HH.out.drewN n)).drew)).mono ?_; rintro e w' ⟨rfl, HG⟩)
    go_ret
    exact ⟨rfl, HG⟩
end Go.Proofs.YtgnajmiccbcacaaDoor
