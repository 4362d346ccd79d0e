/- The texts L1 L2 L3 L4 as one. -/
import Derived.Test.YtjbffhdccgmfpaaGreatDoorRM2
import Derived.Test.YtjbffhdccgmfpaaGreatDoorArgs
import Derived.Deep.MidRow
/- What recipe.IsName answers. -/
namespace Go.Proofs.YtjbffhdccgmfpaaGreatDoor
open Go.RowKit
set_option linter.unusedVariables false

theorem le_u8 (a : Nat) (c : UInt8) : decide ((a : Int) ≤ (c.toNat : Int)) = decide (a ≤ c.toNat) := by simp
theorem isNameByte_at (c : UInt8) (w : World) :
    Calls Tryz.prog 137 #[.int .u8 c.toNat] w fun e w' => e = .returned (.bool (RC.nmB c)) ∧ w' = w := by
  have hc := c.toNat_lt
  by_cases h1 : (97 : Int) ≤ (c.toNat : Int) <;> by_cases h2 : (c.toNat : Int) ≤ 122 <;> by_cases h3 : (48 : Int) ≤ (c.toNat : Int) <;> by_cases h4 : (c.toNat : Int) ≤ 57
  all_goals
    obtain ⟨q, hq⟩ : ∃ q, RC.nmB c = q := ⟨_, rfl⟩
    have hq2 : q = ((decide ((97 : Int) ≤ (c.toNat : Int)) && decide ((c.toNat : Int) ≤ 122)) || (decide ((48 : Int) ≤ (c.toNat : Int)) && decide ((c.toNat : Int) ≤ 57))) := by
      rw [← hq]; unfold RC.nmB
      congr 1 <;> congr 1 <;> rw [Bool.eq_iff_iff] <;> simp <;> omega
    rw [hq]
    simp only [h1, h2, h3, h4, decide_true, decide_false, Bool.and_true, Bool.and_false, Bool.or_true, Bool.or_false, Bool.and_self, Bool.or_self] at hq2
    subst hq2
    clear hq
    first
      | (exfalso; omega)
      | (go_enter Tryz.func137, Tryz.ntmps137
         go_wp2
         go_ret
         exact ⟨rfl, rfl⟩)

/-- whether the first k bytes are such as a name has -/
theorem all_take (s : List UInt8) (k : Nat) (c : UInt8) (h : s[k]? = some c) (ha : (s.take k).all RC.nmB = true) : (s.take (k + 1)).all RC.nmB = RC.nmB c := by
  rw [List.take_add_one, h]
  simp only [Option.toList_some, List.all_append, ha, List.all_cons, List.all_nil, Bool.and_true, Bool.true_and]
theorem isNm_empty : RC.isNm [] = false := rfl
theorem isNm_long (s : List UInt8) (h : 8 < s.length) : RC.isNm s = false := by
  simp only [RC.isNm]; rw [decide_eq_false (by omega)]; simp
theorem isNm_bad (s : List UInt8) (k : Nat) (c : UInt8) (h : s[k]? = some c) (hc : RC.nmB c = false) : RC.isNm s = false := by
  have : s.all RC.nmB = false := by
    rw [List.all_eq_false]
    exact ⟨c, List.mem_of_getElem? h, by simp [hc]⟩
  simp only [RC.isNm, this, Bool.and_false]
theorem isNm_good (s : List UInt8) (h0 : s ≠ []) (h8 : s.length ≤ 8) (ha : (s.take s.length).all RC.nmB = true) : RC.isNm s = true := by
  rw [List.take_length] at ha
  simp only [RC.isNm, ha, decide_eq_true h8, Bool.and_true]
  cases s with
  | nil => exact absurd rfl h0
  | cons a l => rfl
theorem bs_empty (s : List UInt8) : (M.bs s).toList.isEmpty = decide (s = []) := by
  rw [Lib.toList_data, M.bs_toList]
  cases s <;> simp

set_option maxHeartbeats 1000000 in
theorem IsName_at (s : List UInt8) (w : World) (hs : s.length ≤ maxLen) :
    Calls Tryz.prog 114 #[.string (M.bs s)] w fun e w' => e = .returned (.bool (RC.isNm s)) ∧ w' = w := by
  unfold maxLen at hs
  have hbs := M.bs_size s
  have hem := bs_empty s
  by_cases h0 : s = []
  · have hq : RC.isNm s = false := by rw [h0]; rfl
    rw [hq]
    rw [decide_eq_true h0] at hem
    clear h0 hq
    go_enter Tryz.func114, Tryz.ntmps114
    go_wp2_with fail
    go_ret
    exact ⟨rfl, rfl⟩
  rw [decide_eq_false h0] at hem
  by_cases h8 : 8 < s.length
  · rw [isNm_long s h8]
    clear h0
    go_enter Tryz.func114, Tryz.ntmps114
    go_wp2_with fail
    go_ret
    exact ⟨rfl, rfl⟩
  have H0 : Hid (s ≠ []) := h0
  clear h0
  go_enter Tryz.func114, Tryz.ntmps114
  go_wp2_with fail
  go_loop [3, 13] (fun u3 u13 => ∃ k : Nat, k ≤ s.length ∧ u13 = .int .i64 k ∧ (s.take k).all RC.nmB = true) (fun _ u13 => s.length - (intOf u13).toNat)
  case atStart => exact ⟨0, Nat.zero_le _, rfl, rfl⟩
  case round =>
    obtain ⟨k, hk, rfl, ha⟩ := hrel
    have HA : Hid ((s.take k).all RC.nmB = true) := ha
    clear ha
    by_cases hlt : k < s.length
    · have hsk : (M.bs s)[k]'(by omega) = s[k] := by simp [M.bs, ByteArray.getElem_eq_getElem_data]
      have hg : s[k]? = some s[k] := List.getElem?_eq_getElem hlt
      have HS : Hid ((s.take (k + 1)).all RC.nmB = RC.nmB s[k]) := all_take s k _ hg HA.out
      have HB : Hid (RC.nmB s[k] = false → RC.isNm s = false) := isNm_bad s k _ hg
      clear hg
      obtain ⟨q, hq⟩ : ∃ q, RC.nmB s[k] = q := ⟨_, rfl⟩
      have CB : Hid (∀ W, Calls Tryz.prog 137 #[.int .u8 (s[k]'hlt).toNat] W fun e w' => e = .returned (.bool q) ∧ w' = W) := fun W => by
        rw [← hq]; exact isNameByte_at _ W
      rw [hq] at HS HB
      clear hq
      cases q
      · go_wp2_with (go_at_call 137; refine (CB.out _).mono ?_; rintro e w' ⟨rfl, rfl⟩)
        go_ret
        exact ⟨by rw [HB.out trivial]; rfl, rfl⟩
      · go_wp2_with (go_at_call 137; refine (CB.out _).mono ?_; rintro e w' ⟨rfl, rfl⟩)
        go_round
        case rel => exact ⟨k + 1, by omega, by go_num, HS.out⟩
        case measure => simp [intOf]; omega
    · obtain rfl : k = s.length := by omega
      have HG : Hid (RC.isNm s = true) := isNm_good s H0.out (by omega) HA.out
      go_wp2_with fail
      go_ret
      exact ⟨by rw [HG.out]; rfl, rfl⟩
end Go.Proofs.YtjbffhdccgmfpaaGreatDoor

/- areNames, and slices.Equal at texts. -/
namespace Go.Proofs.YtjbffhdccgmfpaaGreatDoor
open Go.RowKit
set_option linter.unusedVariables false

/-- the first place at which p holds; -1: none -/
def idxI {α : Type} (p : α → Bool) (l : List α) : Int := match l.findIdx? p with | some i => (i : Int) | none => -1
theorem idxI_of {α : Type} {p : α → Bool} {l : List α} {k : Nat} (h1 : ∀ i e, i < k → l[i]? = some e → p e = false) {e : α} (he : l[k]? = some e) (h2 : p e = true) : idxI p l = (k : Int) := by
  unfold idxI
  have hk : k < l.length := (List.getElem?_eq_some_iff.1 he).1
  have : l.findIdx? p = some k := by
    rw [List.findIdx?_eq_some_iff_getElem]
    refine ⟨hk, ?_, fun j hj => ?_⟩
    · rw [List.getElem?_eq_getElem hk] at he
      rw [Option.some.inj he]; exact h2
    · have := h1 j l[j] hj (List.getElem?_eq_getElem (by omega))
      simp [this]
  rw [this]
theorem idxI_none {α : Type} {p : α → Bool} {l : List α} (h1 : ∀ i e, i < l.length → l[i]? = some e → p e = false) : idxI p l = -1 := by
  unfold idxI
  have : l.findIdx? p = none := by
    rw [List.findIdx?_eq_none_iff]
    intro e he
    obtain ⟨i, hi, rfl⟩ := List.getElem_of_mem he
    exact h1 i l[i] hi (List.getElem?_eq_getElem hi)
  rw [this]
theorem idxI_any {α : Type} (p : α → Bool) (l : List α) : decide (0 ≤ idxI p l) = l.any p := by
  unfold idxI
  cases h : l.findIdx? p with
  | none =>
    rw [List.findIdx?_eq_none_iff] at h
    have : l.any p = false := by rw [List.any_eq_false]; intro x hx; simp [h x hx]
    rw [this]; rfl
  | some i =>
    obtain ⟨hi, hp, _⟩ := List.findIdx?_eq_some_iff_getElem.1 h
    have : l.any p = true := List.any_eq_true.2 ⟨l[i], List.getElem_mem hi, hp⟩
    rw [this]; simp
theorem idxI_bound {α : Type} (p : α → Bool) (l : List α) : -1 ≤ idxI p l ∧ idxI p l ≤ (l.length : Int) := by
  unfold idxI
  cases h : l.findIdx? p with
  | none => simp
  | some i =>
    obtain ⟨hi, _, _⟩ := List.findIdx?_eq_some_iff_getElem.1 h
    simp; omega

theorem notName_at (s : List UInt8) (w : World) (hs : s.length ≤ maxLen) :
    Calls Tryz.prog 113 #[.string (M.bs s)] w fun e w' => e = .returned (.bool (!RC.isNm s)) ∧ w' = w := by
  obtain ⟨q, hq⟩ : ∃ q, RC.isNm s = q := ⟨_, rfl⟩
  have CN : Hid (∀ W, Calls Tryz.prog 114 #[.string (M.bs s)] W fun e w' => e = .returned (.bool q) ∧ w' = W) := fun W => by
    rw [← hq]; exact IsName_at s W hs
  rw [hq]
  clear hq
  go_enter Tryz.func113, Tryz.ntmps113
  go_wp2_with (go_at_call 114; refine (CN.out _).mono ?_; rintro e w' ⟨rfl, rfl⟩)
  go_ret
  exact ⟨rfl, rfl⟩

/-- where the texts of a slice lie -/
def SA (w : World) (a : Option Addr) (l : List (List UInt8)) : Prop := ∀ i t, l[i]? = some t → ∃ b off, a = some ⟨b, off, none⟩ ∧ w.cell? ⟨b, off + i, none⟩ = some (.string (M.bs t))
theorem Strs.sa {B : Nat} {w : World} {a : Option Addr} {n c : Nat} {l : List (List UInt8)} (h : Strs B w (.slice a n c) l) : n = l.length ∧ SA w a l := by
  rcases h with ⟨rfl, _, _, e⟩ | ⟨b, off, cap, e, hb, hc⟩
  · simp only [Value.slice.injEq] at e
    exact ⟨e.2.1, fun i t ht => by simp at ht⟩
  · simp only [Value.slice.injEq] at e
    exact ⟨e.2.1, fun i t ht => ⟨b, off, e.1, hc i t ht⟩⟩

set_option maxRecDepth 8000 in
set_option maxHeartbeats 1000000 in
theorem IndexS_x (l : List (List UInt8)) (a : Option Addr) (c : Nat) (w : World) (hv : SA w a l) (hl : ∀ t ∈ l, t.length ≤ maxLen) (hn : l.length ≤ maxLen) :
    Calls Tryz.prog 40 #[.slice a l.length c, .func (.func 113) #[] #[]] w fun e w' => e = .returned (.int .i64 (idxI (fun s => !RC.isNm s) l)) ∧ w' = w := by
  have HV : Hid (SA w a l) := hv
  have HL : Hid (∀ t ∈ l, t.length ≤ maxLen) := hl
  clear hv hl
  unfold maxLen at hn
  go_enter Tryz.func40, Tryz.ntmps40
  go_wp2_with fail
  go_loop [5, 8] (fun u5 u8 => ∃ k : Nat, k ≤ l.length ∧ u8 = .int .i64 k ∧ ∀ i e, i < k → l[i]? = some e → (!RC.isNm e) = false) (fun _ u8 => l.length - (intOf u8).toNat)
  case atStart => exact ⟨0, Nat.zero_le _, rfl, fun i e hi => by omega⟩
  case round =>
    obtain ⟨k, hk, rfl, hpre⟩ := hrel
    have HP : Hid (∀ i e, i < k → l[i]? = some e → (!RC.isNm e) = false) := hpre
    clear hpre
    by_cases hlt : k < l.length
    · obtain ⟨t, ht⟩ : ∃ t, l[k]? = some t := ⟨l[k], List.getElem?_eq_getElem hlt⟩
      obtain ⟨b, off, rfl, hc⟩ := HV.out k t ht
      have htl := HL.out t (List.mem_of_getElem? ht)
      obtain ⟨q, hq⟩ : ∃ q, (!RC.isNm t) = q := ⟨_, rfl⟩
      have CN : Hid (∀ W, Calls Tryz.prog 113 #[.string (M.bs t)] W fun e w' => e = .returned (.bool q) ∧ w' = W) := fun W => by
        rw [← hq]; exact notName_at t W htl
      have HF : Hid (q = true → idxI (fun s => !RC.isNm s) l = (k : Int)) := fun h => idxI_of HP.out ht (by rw [hq]; exact h)
      have HE : Hid (q = false → ∀ i e, i < k + 1 → l[i]? = some e → (!RC.isNm e) = false) := fun h i e hi he => by
        rcases (by omega : i < k ∨ i = k) with h' | rfl
        · exact HP.out i e h' he
        · rw [ht] at he; cases he; rw [hq]; exact h
      clear ht hq htl
      cases q
      · go_wp2_with (go_at_call 113; refine (CN.out _).mono ?_; rintro e w' ⟨rfl, rfl⟩)
        go_round
        case rel => exact ⟨k + 1, by omega, by go_num, HE.out trivial⟩
        case measure => simp [intOf]; omega
      · go_wp2_with (go_at_call 113; refine (CN.out _).mono ?_; rintro e w' ⟨rfl, rfl⟩)
        go_ret
        exact ⟨by rw [HF.out trivial]; rfl, rfl⟩
    · obtain rfl : k = l.length := by omega
      have HF : Hid (idxI (fun s => !RC.isNm s) l = -1) := idxI_none HP.out
      go_wp2_with fail
      go_ret
      exact ⟨by rw [HF.out]; rfl, rfl⟩
theorem ContainsS_x (l : List (List UInt8)) (a : Option Addr) (c : Nat) (w : World) (hv : SA w a l) (hl : ∀ t ∈ l, t.length ≤ maxLen) (hn : l.length ≤ maxLen) :
    Calls Tryz.prog 23 #[.slice a l.length c, .func (.func 113) #[] #[]] w fun e w' => e = .returned (.bool (l.any fun s => !RC.isNm s)) ∧ w' = w := by
  have hb := idxI_bound (fun s => !RC.isNm s) l
  obtain ⟨i, hi⟩ : ∃ i, idxI (fun s => !RC.isNm s) l = i := ⟨_, rfl⟩
  have CI : Hid (Calls Tryz.prog 40 #[.slice a l.length c, .func (.func 113) #[] #[]] w fun e w' => e = .returned (.int .i64 i) ∧ w' = w) := by
    show Calls _ _ _ _ _
    rw [← hi]; exact IndexS_x l a c w hv hl hn
  have HA : Hid (decide (0 ≤ i) = l.any fun s => !RC.isNm s) := by show _ = _; rw [← hi]; exact idxI_any _ l
  clear hi hb
  go_enter Tryz.func23, Tryz.ntmps23
  go_wp2_with (go_at_call 40; refine CI.out.mono ?_; rintro e w' ⟨rfl, rfl⟩)
  go_ret
  exact ⟨by rw [← HA.out]; rfl, rfl⟩
theorem any_all {α : Type} (p : α → Bool) (l : List α) : (!(l.any fun s => !p s)) = l.all p := by
  induction l with
  | nil => rfl
  | cons a l ih => simp only [List.any_cons, List.all_cons, Bool.not_or, Bool.not_not, ih]
theorem areNames_at (l : List (List UInt8)) (a : Option Addr) (c : Nat) (w : World) (hv : SA w a l) (hl : ∀ t ∈ l, t.length ≤ maxLen) (hn : l.length ≤ maxLen) :
    Calls Tryz.prog 98 #[.slice a l.length c] w fun e w' => e = .returned (.bool (l.all RC.isNm)) ∧ w' = w := by
  obtain ⟨q, hq⟩ : ∃ q, (l.any fun s => !RC.isNm s) = q := ⟨_, rfl⟩
  have CC : Hid (Calls Tryz.prog 23 #[.slice a l.length c, .func (.func 113) #[] #[]] w fun e w' => e = .returned (.bool q) ∧ w' = w) := by
    show Calls _ _ _ _ _
    rw [← hq]; exact ContainsS_x l a c w hv hl hn
  rw [← any_all, hq]
  clear hq
  go_enter Tryz.func98, Tryz.ntmps98
  go_wp2_with (go_at_call 23; refine CC.out.mono ?_; rintro e w' ⟨rfl, rfl⟩)
  go_ret
  exact ⟨rfl, rfl⟩

end Go.Proofs.YtjbffhdccgmfpaaGreatDoor

/- Actions in memory; whether a build can be written. -/
namespace Go.Proofs.YtjbffhdccgmfpaaGreatDoor
open Go.RowKit
set_option linter.unusedVariables false

/-- an action's cells -/
def acL (t : RC.Ac) (x : Option Addr) (c : Nat) : List Value := [.string (M.bs t.1), .slice x t.2.1.length c, .string (M.bs t.2.2)]
theorem undAc : ∃ fs, Tryz.prog.underlying 43 = some (.struct fs) := ⟨_, Tryz.underlying43⟩
theorem infoAc (t : RC.Ac) (x : Option Addr) (c : Nat) : (Tryz.prog.info? 43).map (·.size) = some (acL t x c).length := by
  have : (Tryz.prog.info? 43).map (·.size) = some 3 := by kernel_rfl
  exact this
/-- actions in memory -/
def Acts (B : Nat) (w : World) (a : Option Addr) (l : List RC.Ac) : Prop := ∀ i t, l[i]? = some t → ∃ b off x c, a = some ⟨b, off, none⟩ ∧ b < B ∧ w.rangeAt b (off + i * 3) (acL t x c) ∧ Strs B w (.slice x t.2.1.length c) t.2.1
theorem Acts.below {B B' : Nat} {w w' : World} {a : Option Addr} {l : List RC.Ac} (h : Acts B w a l) (hb : Below B w w') (hB : B ≤ B') : Acts B' w' a l := by
  intro i t ht
  obtain ⟨b, off, x, c, h1, h2, h3, h4⟩ := h i t ht
  refine ⟨b, off, x, c, h1, by omega, fun j v hv => ?_, h4.below hb hB⟩
  rw [hb.cell (p := ⟨b, off + i * 3 + j, none⟩) h2]
  exact h3 j v hv
theorem Acts.bl {w0 w : World} {a : Option Addr} {l : List RC.Ac} (h : Acts w0.heap.size w0 a l) (hb : Bl w0 w) : Acts w.heap.size w a l := h.below hb (Below.size hb)
/-- an action's texts are no longer than a text can be -/
def acOk (t : RC.Ac) : Prop := t.1.length ≤ maxLen ∧ t.2.1.length ≤ maxLen ∧ (∀ s ∈ t.2.1, s.length ≤ maxLen) ∧ t.2.2.length ≤ maxLen

set_option maxHeartbeats 1000000 in
theorem canWriteAction_at (t : RC.Ac) (x : Option Addr) (c : Nat) {w W : World} (HB : Bl w W) (hv : Strs W.heap.size W (.slice x t.2.1.length c) t.2.1) (ht : acOk t) :
    Calls Tryz.prog 100 #[.agg (acL t x c).toArray] W fun e w' => e = .returned (.bool (RC.canA t)) ∧ Bl w w' := by
  obtain ⟨n, ins, code⟩ := t
  obtain ⟨h1, h2, h3, h4⟩ := ht
  simp only [] at h1 h2 h3 h4 hv
  have hbs := M.bs_size code
  have CI : Hid (∀ W', Calls Tryz.prog 114 #[.string (M.bs n)] W' fun e w' => e = .returned (.bool (RC.isNm n)) ∧ w' = W') := fun W' => IsName_at n W' h1
  have CA : Hid (∀ W', Bl W W' → Calls Tryz.prog 98 #[.slice x ins.length c] W' fun e w' => e = .returned (.bool (ins.all RC.isNm)) ∧ w' = W') := fun W' hW => areNames_at ins x c W' (Strs.sa (hv.bl hW)).2 h3 h2
  have HA : Hid (∀ o, Bl W (W.alloc o)) := fun o => (Bl.refl W).alloc o
  have HF : Hid (∀ o, Bl w (W.alloc o)) := fun o => HB.alloc o
  obtain ⟨q1, hq1⟩ : ∃ q, RC.isNm n = q := ⟨_, rfl⟩
  obtain ⟨q3, hq3⟩ : ∃ q, ins.all RC.isNm = q := ⟨_, rfl⟩
  have hca : RC.canA (n, ins, code) = (q1 && decide (ins.length ≤ 4) && q3 && decide (code.length ≤ 64)) := by
    simp only [RC.canA, hq1, hq3]
  rw [hq1] at CI
  rw [hq3] at CA
  rw [hca]
  unfold maxLen at h2 h4
  clear hv HB hq1 hq3 hca h1 h3
  unfold acL
  simp only []
  by_cases h5 : ins.length ≤ 4 <;> by_cases h6 : code.length ≤ 64 <;> cases q1 <;> cases q3
  all_goals
    have h5' : decide (ins.length ≤ 4) = decide ((ins.length : Int) ≤ 4) := by simp; omega
    have h6' : decide (code.length ≤ 64) = decide ((code.length : Int) ≤ 64) := by simp; omega
    rw [h5', h6']
    clear h5' h6'
    have h7 : ((ins.length : Int) ≤ 4) ∨ ¬ ((ins.length : Int) ≤ 4) := by omega
    go_enter Tryz.func100, Tryz.ntmps100
    go_wp2_with (first
      | (go_at_call 114; refine (CI.out _).mono ?_; rintro e w' ⟨rfl, rfl⟩)
      | (go_at_call 98; refine (CA.out _ (HA.out _)).mono ?_; rintro e w' ⟨rfl, rfl⟩))
    go_ret
    exact ⟨by first | rfl | (simp_all; done) | (simp_all; omega), HF.out _⟩

set_option maxHeartbeats 1000000 in
theorem notWrite_at (t : RC.Ac) (x : Option Addr) (c : Nat) {w W : World} (HB : Bl w W) (hv : Strs W.heap.size W (.slice x t.2.1.length c) t.2.1) (ht : acOk t) :
    Calls Tryz.prog 99 #[.agg (acL t x c).toArray] W fun e w' => e = .returned (.bool (!RC.canA t)) ∧ Bl w w' := by
  have CW : Hid (∀ o, Calls Tryz.prog 100 #[.agg (acL t x c).toArray] (W.alloc o) fun e w' => e = .returned (.bool (RC.canA t)) ∧ Bl w w') := fun o =>
    canWriteAction_at t x c (HB.alloc o) (hv.bl ((Bl.refl W).alloc o)) ht
  obtain ⟨q, hq⟩ : ∃ q, RC.canA t = q := ⟨_, rfl⟩
  rw [hq] at CW ⊢
  clear hv HB ht hq
  unfold acL at CW ⊢
  go_enter Tryz.func99, Tryz.ntmps99
  go_wp2_with (go_at_call 100; refine (CW.out _).mono ?_; rintro e w' ⟨rfl, HB⟩)
  go_ret
  exact ⟨rfl, HB⟩

set_option maxRecDepth 8000 in
set_option maxHeartbeats 1000000 in
theorem IndexA_x (l : List RC.Ac) (a : Option Addr) (c : Nat) {w W : World} (HB : Bl w W) (hv : Acts W.heap.size W a l) (hl : ∀ t ∈ l, acOk t) (hn : l.length ≤ maxLen) :
    Calls Tryz.prog 83 #[.slice a l.length c, .func (.func 99) #[] #[]] W fun e w' => e = .returned (.int .i64 (idxI (fun s => !RC.canA s) l)) ∧ Bl w w' := by
  have HV : Hid (Acts W.heap.size W a l) := hv
  have HL : Hid (∀ t ∈ l, acOk t) := hl
  have HB0 : Hid (Bl w W) := HB
  obtain ⟨fs, hum⟩ := undAc
  clear hv hl HB
  unfold maxLen at hn
  go_enter Tryz.func83, Tryz.ntmps83
  go_wp2_with fail
  go_loopw [5, 8] (fun u5 u8 wr => ∃ k : Nat, k ≤ l.length ∧ u8 = .int .i64 k ∧ (∀ i e, i < k → l[i]? = some e → (!RC.canA e) = false) ∧ Bl W wr) (fun _ u8 _ => l.length - (intOf u8).toNat)
  case atStart => exact ⟨0, Nat.zero_le _, rfl, fun i e hi => by omega, Bl.refl W⟩
  case round =>
    obtain ⟨k, hk, rfl, hpre, hbl⟩ := hrel
    have HP : Hid (∀ i e, i < k → l[i]? = some e → (!RC.canA e) = false) := hpre
    have HBR : Hid (Bl W wr) := hbl
    clear hpre hbl
    by_cases hlt : k < l.length
    · obtain ⟨t, ht⟩ : ∃ t, l[k]? = some t := ⟨l[k], List.getElem?_eq_getElem hlt⟩
      obtain ⟨b, off, x, c2, rfl, hb, hr, hs⟩ := HV.out.bl HBR.out k t ht
      have htl := HL.out t (List.mem_of_getElem? ht)
      have HR : Hid (wr.rangeAt b (off + k * 3) (acL t x c2)) := hr
      obtain ⟨q, hq⟩ : ∃ q, (!RC.canA t) = q := ⟨_, rfl⟩
      have CN : Hid (Calls Tryz.prog 99 #[.agg (acL t x c2).toArray] wr fun e w' => e = .returned (.bool q) ∧ Bl W w') := by
        show Calls _ _ _ _ _
        rw [← hq]; exact notWrite_at t x c2 HBR.out hs htl
      have HF : Hid (q = true → idxI (fun s => !RC.canA s) l = (k : Int)) := fun h => idxI_of HP.out ht (by rw [hq]; exact h)
      have HE : Hid (q = false → ∀ i e, i < k + 1 → l[i]? = some e → (!RC.canA e) = false) := fun h i e hi he => by
        rcases (by omega : i < k ∨ i = k) with h' | rfl
        · exact HP.out i e h' he
        · rw [ht] at he; cases he; rw [hq]; exact h
      have hi := infoAc t x c2
      clear ht hq htl hr hs
      generalize acL t x c2 = SL at *
      cases q
      · go_wp2_with (first
          | (refine wpList_load_mid rfl 43 _ rfl b (off + k * 3) rfl SL _ HR.out hum rfl hi ?_)
          | (go_at_call 99; refine CN.out.mono ?_; rintro e w' ⟨rfl, hy⟩))
        go_roundw
        case rel => exact ⟨k + 1, by omega, by go_num, HE.out trivial, hy⟩
        case measure => simp [intOf]; omega
      · go_wp2_with (first
          | (refine wpList_load_mid rfl 43 _ rfl b (off + k * 3) rfl SL _ HR.out hum rfl hi ?_)
          | (go_at_call 99; refine CN.out.mono ?_; rintro e w' ⟨rfl, hy⟩))
        go_ret
        exact ⟨by rw [HF.out trivial]; rfl, HB0.out.step hy⟩
    · obtain rfl : k = l.length := by omega
      have HF : Hid (idxI (fun s => !RC.canA s) l = -1) := idxI_none HP.out
      go_wp2_with fail
      go_ret
      exact ⟨by rw [HF.out]; rfl, HB0.out.step HBR.out⟩
theorem ContainsA_x (l : List RC.Ac) (a : Option Addr) (c : Nat) {w W : World} (HB : Bl w W) (hv : Acts W.heap.size W a l) (hl : ∀ t ∈ l, acOk t) (hn : l.length ≤ maxLen) :
    Calls Tryz.prog 61 #[.slice a l.length c, .func (.func 99) #[] #[]] W fun e w' => e = .returned (.bool (l.any fun s => !RC.canA s)) ∧ Bl w w' := by
  obtain ⟨i, hi⟩ : ∃ i, idxI (fun s => !RC.canA s) l = i := ⟨_, rfl⟩
  have CI : Hid (Calls Tryz.prog 83 #[.slice a l.length c, .func (.func 99) #[] #[]] W fun e w' => e = .returned (.int .i64 i) ∧ Bl w w') := by
    show Calls _ _ _ _ _
    rw [← hi]; exact IndexA_x l a c HB hv hl hn
  have HA : Hid (decide (0 ≤ i) = l.any fun s => !RC.canA s) := by show _ = _; rw [← hi]; exact idxI_any _ l
  clear hi HB hv
  go_enter Tryz.func61, Tryz.ntmps61
  go_wp2_with (go_at_call 83; refine CI.out.mono ?_; rintro e w' ⟨rfl, HB⟩)
  go_ret
  exact ⟨by rw [← HA.out]; rfl, HB⟩

/-- a build in memory -/
structure GA (B : Nat) (w : World) (g : RC.Gr) (sa : Option Addr) (sc : Nat) (aa : Option Addr) (ac : Nat) : Prop where
  s : Strs B w (.slice sa g.1.length sc) g.1
  a : Acts B w aa g.2
theorem GA.below {B B' : Nat} {w w' : World} {g : RC.Gr} {sa : Option Addr} {sc : Nat} {aa : Option Addr} {ac : Nat} (h : GA B w g sa sc aa ac) (hb : Below B w w') (hB : B ≤ B') : GA B' w' g sa sc aa ac := ⟨h.s.below hb hB, h.a.below hb hB⟩
theorem GA.bl {w0 w : World} {g : RC.Gr} {sa : Option Addr} {sc : Nat} {aa : Option Addr} {ac : Nat} (h : GA w0.heap.size w0 g sa sc aa ac) (hb : Bl w0 w) : GA w.heap.size w g sa sc aa ac := h.below hb (Below.size hb)
/-- a build's value -/
def gv (g : RC.Gr) (sa : Option Addr) (sc : Nat) (aa : Option Addr) (ac : Nat) : Array Value := #[.slice sa g.1.length sc, .slice aa g.2.length ac]
structure grOk (g : RC.Gr) : Prop where
  s : g.1.length ≤ maxLen
  t : ∀ s ∈ g.1, s.length ≤ maxLen
  a : g.2.length ≤ maxLen
  b : ∀ t ∈ g.2, acOk t
theorem all_any {α : Type} (p : α → Bool) (l : List α) (q : Bool) (h : (l.any fun s => !p s) = q) : l.all p = !q := by rw [← h, any_all]

set_option maxHeartbeats 1000000 in
theorem canBeWritten_at (g : RC.Gr) (sa : Option Addr) (sc : Nat) (aa : Option Addr) (ac : Nat) {w W : World} (HB : Bl w W) (hg : GA W.heap.size W g sa sc aa ac) (hk : grOk g) :
    Calls Tryz.prog 78 #[.agg (gv g sa sc aa ac)] W fun e w' => e = .returned (.bool (RC.can g)) ∧ Bl w w' := by
  obtain ⟨S, A⟩ := g
  obtain ⟨k1, k2, k3, k4⟩ := hk
  simp only [] at k1 k2 k3 k4
  have CA : Hid (∀ W', Bl W W' → Calls Tryz.prog 98 #[.slice sa S.length sc] W' fun e w' => e = .returned (.bool (S.all RC.isNm)) ∧ w' = W') := fun W' hW => areNames_at S sa sc W' (Strs.sa (hg.s.bl hW)).2 k2 k1
  have CC : Hid (∀ W', Bl W W' → Calls Tryz.prog 61 #[.slice aa A.length ac, .func (.func 99) #[] #[]] W' fun e w' => e = .returned (.bool (A.any fun s => !RC.canA s)) ∧ Bl w w') := fun W' hW => ContainsA_x A aa ac (HB.step hW) (hg.a.bl hW) k4 k3
  have HA : Hid (∀ o, Bl W (W.alloc o)) := fun o => (Bl.refl W).alloc o
  have HF : Hid (∀ o, Bl w (W.alloc o)) := fun o => HB.alloc o
  obtain ⟨q1, hq1⟩ : ∃ q, S.all RC.isNm = q := ⟨_, rfl⟩
  obtain ⟨q3, hq3⟩ : ∃ q, (A.any fun s => !RC.canA s) = q := ⟨_, rfl⟩
  have hca : RC.can (S, A) = (decide (S.length ≤ 8) && decide (A.length ≤ 12) && q1 && !q3) := by
    simp only [RC.can, hq1, all_any _ _ _ hq3]
  rw [hq1] at CA
  rw [hq3] at CC
  rw [hca]
  unfold maxLen at k1 k3
  clear hg HB hq1 hq3 hca k2 k4
  unfold gv
  simp only []
  by_cases h5 : S.length ≤ 8 <;> by_cases h6 : A.length ≤ 12 <;> cases q1 <;> cases q3
  all_goals
    have h7 : ((S.length : Int) ≤ 8) ∨ ¬ ((S.length : Int) ≤ 8) := by omega
    go_enter Tryz.func78, Tryz.ntmps78
    go_wp2_with (first
      | (go_at_call 98; refine (CA.out _ (HA.out _)).mono ?_; rintro e w' ⟨rfl, rfl⟩)
      | (go_at_call 61; refine (CC.out _ (HA.out _)).mono ?_; rintro e w' ⟨rfl, HX⟩))
    go_ret
    exact ⟨by first | rfl | (simp_all; done) | (simp_all; omega), by first | exact HX | exact HF.out _⟩
end Go.Proofs.YtjbffhdccgmfpaaGreatDoor

/- recipe.Same: whether two builds are the same. -/
namespace Go.Proofs.YtjbffhdccgmfpaaGreatDoor
open Go.RowKit
set_option linter.unusedVariables false

theorem bs_eqB (a b : List UInt8) : ((M.bs a).toList == (M.bs b).toList) = decide (a = b) := by
  rw [Lib.toList_data, Lib.toList_data, M.bs_toList, M.bs_toList, Bool.eq_iff_iff]; simp
theorem ac_eq (n m : List UInt8) (i j : List (List UInt8)) (c d : List UInt8) : decide (((n, i, c) : RC.Ac) = (m, j, d)) = (decide (n = m) && decide (c = d) && decide (i = j)) := by
  rw [Bool.eq_iff_iff]; simp only [Bool.and_eq_true, decide_eq_true_eq, Prod.mk.injEq]
  exact ⟨fun ⟨a, b, c⟩ => ⟨⟨a, c⟩, b⟩, fun ⟨⟨a, c⟩, b⟩ => ⟨a, b, c⟩⟩
theorem gr_eq (s t : List (List UInt8)) (a b : List RC.Ac) : decide (((s, a) : RC.Gr) = (t, b)) = (decide (s = t) && decide (a = b)) := by
  rw [Bool.eq_iff_iff]; simp only [Bool.and_eq_true, decide_eq_true_eq, Prod.mk.injEq]

end Go.Proofs.YtjbffhdccgmfpaaGreatDoor
