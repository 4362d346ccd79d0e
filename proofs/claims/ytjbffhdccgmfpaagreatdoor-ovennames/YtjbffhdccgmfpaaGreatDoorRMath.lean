/- Builds as texts, on lists of bytes: names, codes' words, lines; what is written, what is read, and that the two fit. No program is named here. -/
import Derived.Test.YtjbffhdccgmfpaaGreatDoorMath
import Derived.Lib.Split
import Derived.Lib.Join
import Derived.Lib.CutLaws
namespace Go.Proofs.YtjbffhdccgmfpaaGreatDoor.RC
set_option linter.unusedVariables false

abbrev Bs := List UInt8
/-- an action: its name, its inputs, its code -/
abbrev Ac := Bs × List Bs × Bs
/-- a build: its sources, its actions -/
abbrev Gr := List Bs × List Ac

/-- the bytes ahead of the first c and those behind it -/
def cutL (c : UInt8) : Bs → Option (Bs × Bs)
  | [] => none
  | b :: l => if c == b then some ([], l) else match cutL c l with
    | none => none
    | some (p, q) => some (b :: p, q)
theorem cutL_none (c : UInt8) : ∀ s, cutL c s = none → c ∉ s ∧ Lib.index s [c] = -1
  | [], _ => by simp [Lib.index]
  | b :: l, h => by
    unfold cutL at h
    by_cases hb : (c == b) = true
    · rw [if_pos hb] at h; simp at h
    · rw [if_neg hb] at h
      cases hl : cutL c l with
      | none =>
        obtain ⟨h1, h2⟩ := cutL_none c l hl
        have hne : c ≠ b := by simpa using hb
        refine ⟨by simp [hne, h1], ?_⟩
        unfold Lib.index
        have : [c].isPrefixOf (b :: l) = false := by simpa [List.isPrefixOf] using hb
        rw [this, h2]; rfl
      | some x => rw [hl] at h; obtain ⟨p, q⟩ := x; simp at h
theorem cutL_some (c : UInt8) : ∀ s p q, cutL c s = some (p, q) → s = p ++ c :: q ∧ c ∉ p ∧ Lib.index s [c] = (p.length : Int)
  | [], p, q, h => by simp [cutL] at h
  | b :: l, p, q, h => by
    unfold cutL at h
    by_cases hb : (c == b) = true
    · rw [if_pos hb] at h
      simp only [Option.some.injEq, Prod.mk.injEq] at h
      obtain ⟨rfl, rfl⟩ := h
      have e : c = b := by simpa using hb
      subst e
      refine ⟨rfl, by simp, ?_⟩
      unfold Lib.index
      rw [if_pos (by simp [List.isPrefixOf])]; rfl
    · rw [if_neg hb] at h
      cases hl : cutL c l with
      | none => rw [hl] at h; simp at h
      | some x =>
        obtain ⟨p', q'⟩ := x
        rw [hl] at h
        simp only [Option.some.injEq, Prod.mk.injEq] at h
        obtain ⟨rfl, rfl⟩ := h
        obtain ⟨h1, h2, h3⟩ := cutL_some c l p' q' hl
        have hne : c ≠ b := by simpa using hb
        refine ⟨by rw [h1]; rfl, by simp [hne, h2], ?_⟩
        unfold Lib.index
        have e : [c].isPrefixOf (b :: l) = false := by simpa [List.isPrefixOf] using hb
        have e2 : ((p'.length : Int) == -1) = false := by rw [beq_eq_false_iff_ne]; omega
        rw [e, h3, e2]; simp
theorem cutL_mk (c : UInt8) : ∀ p q, c ∉ p → cutL c (p ++ c :: q) = some (p, q)
  | [], q, _ => by simp [cutL]
  | b :: p, q, h => by
    have hb : ¬ (c == b) = true := by intro e; apply h; simp at e; simp [e]
    have ih := cutL_mk c p q (fun hm => h (by simp [hm]))
    rw [List.cons_append]
    unfold cutL
    rw [if_neg hb, ih]
theorem cutL_not (c : UInt8) (s : Bs) (h : c ∉ s) : cutL c s = none := by
  cases hc : cutL c s with
  | none => rfl
  | some x => obtain ⟨p, q⟩ := x; have := (cutL_some c s p q hc).1; rw [this] at h; simp at h
/-- what strings.Cut answers -/
theorem cut_none (c : UInt8) (s : Bs) (h : cutL c s = none) : Lib.cut s [c] = (s, [], false) := by
  unfold Lib.cut; rw [(cutL_none c s h).2]; rfl
theorem cut_some (c : UInt8) (s p q : Bs) (h : cutL c s = some (p, q)) : Lib.cut s [c] = (p, q, true) := by
  obtain ⟨h1, _, h3⟩ := cutL_some c s p q h
  unfold Lib.cut
  rw [h3, if_pos (by omega), h1]
  simp
theorem cutL_len (c : UInt8) (s p q : Bs) (h : cutL c s = some (p, q)) : p.length + q.length + 1 = s.length := by
  rw [(cutL_some c s p q h).1]; simp; omega

/-- a text's parts between the c's -/
def spl (c : UInt8) : Bs → List Bs
  | [] => [[]]
  | b :: l => if c == b then [] :: spl c l else match spl c l with
    | [] => [[b]]
    | x :: r => (b :: x) :: r
theorem spl_ne (c : UInt8) (s : Bs) : spl c s ≠ [] := by
  cases s with
  | nil => simp [spl]
  | cons b l => unfold spl; split
                · simp
                · split <;> simp
theorem spl_not (c : UInt8) : ∀ s, c ∉ s → spl c s = [s]
  | [], _ => rfl
  | b :: l, h => by
    have hb : ¬ (c == b) = true := by intro e; apply h; simp at e; simp [e]
    unfold spl
    rw [if_neg hb, spl_not c l (fun hm => h (by simp [hm]))]
theorem spl_cut (c : UInt8) : ∀ p q, c ∉ p → spl c (p ++ c :: q) = p :: spl c q
  | [], q, _ => by simp [spl]
  | b :: p, q, h => by
    have hb : ¬ (c == b) = true := by intro e; apply h; simp at e; simp [e]
    rw [List.cons_append, spl, if_neg hb, spl_cut c p q (fun hm => h (by simp [hm]))]
theorem splitK_spl (c : UInt8) : ∀ (k : Nat) (s : Bs), Lib.count s [c] = k → Lib.splitK [c] 0 k s = spl c s
  | k, s, h => by
    cases hc : cutL c s with
    | none =>
      obtain ⟨h1, h2⟩ := cutL_none c s hc
      rw [Lib.count_miss h2] at h
      subst h
      rw [spl_not c s h1]; rfl
    | some x =>
      obtain ⟨p, q⟩ := x
      obtain ⟨h1, h2, h3⟩ := cutL_some c s p q hc
      rw [Lib.count_hit (by simp) h3] at h
      cases k with
      | zero => omega
      | succ k =>
        have hd : s.drop (p.length + 1) = q := by rw [h1]; simp
        have ih := splitK_spl c k q (by rw [show [c].length = 1 from rfl, hd] at h; omega)
        unfold Lib.splitK
        have e2 : ((p.length : Int) == -1) = false := by rw [beq_eq_false_iff_ne]; omega
        rw [h3, e2]
        simp only [Bool.false_eq_true, if_false, Int.toNat_natCast, List.length_cons, List.length_nil, Nat.add_zero, Nat.zero_add]
        rw [hd, ih, h1, spl_cut c p q h2]
        simp
theorem split_spl (c : UInt8) (s : Bs) : Lib.split s [c] = spl c s := splitK_spl c _ s rfl
theorem spl_join (c : UInt8) : ∀ s, Lib.join (spl c s) [c] = s
  | [] => rfl
  | b :: l => by
    have ih := spl_join c l
    unfold spl
    by_cases hb : (c == b) = true
    · rw [if_pos hb]
      have e : c = b := by simpa using hb
      subst e
      rw [Lib.join_cons]
      cases hs : spl c l with
      | nil => exact absurd hs (spl_ne c l)
      | cons x r =>
        rw [hs, Lib.join_cons] at ih
        simp only [Lib.joinTail, List.map_cons, List.flatten_cons, List.nil_append] at ih ⊢
        simp [← ih]
    · rw [if_neg hb]
      cases hs : spl c l with
      | nil => exact absurd hs (spl_ne c l)
      | cons x r =>
        rw [hs, Lib.join_cons] at ih
        simp only []
        rw [Lib.join_cons, List.cons_append, ih]
theorem join_spl (c : UInt8) : ∀ (ws : List Bs), ws ≠ [] → (∀ w ∈ ws, c ∉ w) → spl c (Lib.join ws [c]) = ws
  | [], h, _ => absurd rfl h
  | [w], _, h => by rw [Lib.join_one]; exact spl_not c w (h w (by simp))
  | w :: y :: r, _, h => by
    have ih := join_spl c (y :: r) (by simp) (fun x hx => h x (List.mem_cons_of_mem _ hx))
    rw [Lib.join_cons] at ih ⊢
    have e : Lib.joinTail [c] (y :: r) = c :: (y ++ Lib.joinTail [c] r) := by simp [Lib.joinTail]
    rw [e, spl_cut c w _ (h w (by simp)), ih]
theorem spl_mem (c : UInt8) : ∀ s w, w ∈ spl c s → c ∉ w
  | [], w, h => by simp [spl] at h; subst h; simp
  | b :: l, w, h => by
    unfold spl at h
    by_cases hb : (c == b) = true
    · rw [if_pos hb] at h
      rcases List.mem_cons.1 h with rfl | h
      · simp
      · exact spl_mem c l w h
    · rw [if_neg hb] at h
      have hne : c ≠ b := by simpa using hb
      cases hs : spl c l with
      | nil => exact absurd hs (spl_ne c l)
      | cons x r =>
        rw [hs] at h
        simp only [] at h
        rcases List.mem_cons.1 h with rfl | h
        · have := spl_mem c l x (by rw [hs]; simp)
          simp [hne, this]
        · exact spl_mem c l w (by rw [hs]; simp [h])

/-- names -/
def nmB (c : UInt8) : Bool := (97 ≤ c.toNat && c.toNat ≤ 122) || (48 ≤ c.toNat && c.toNat ≤ 57)
def isNm (s : Bs) : Bool := !s.isEmpty && decide (s.length ≤ 8) && s.all nmB
theorem isNm_not {s : Bs} (h : isNm s = true) (c : UInt8) (hc : nmB c = false) : c ∉ s := by
  intro hm
  simp only [isNm, Bool.and_eq_true, List.all_eq_true] at h
  rw [h.2 c hm] at hc; simp at hc
theorem isNm_len {s : Bs} (h : isNm s = true) : s.length ≤ 8 ∧ s ≠ [] := by
  simp only [isNm, Bool.and_eq_true, decide_eq_true_eq, Bool.not_eq_true', List.isEmpty_eq_false_iff] at h
  exact ⟨h.1.2, h.1.1⟩

/-- digits of base 16, and codes' words -/
def digs : Bs := [48, 49, 50, 51, 52, 53, 54, 55, 56, 57, 97, 98, 99, 100, 101, 102]
def hx (n : Nat) : UInt8 := digs.getD n 0
def hex2 (b : UInt8) : Bs := [hx (b.toNat / 16), hx (b.toNat % 16)]
def hexs (c : Bs) : Bs := (c.map hex2).flatten
def codeW (c : Bs) : Bs := if c = [] then [45] else hexs c
def dig (c : UInt8) : Int := Lib.indexByte digs c
def readH : Bs → Option Bs
  | [] => some []
  | [_] => none
  | a :: b :: r => if dig a < 0 || dig b < 0 then none else match readH r with
    | none => none
    | some c => some (UInt8.ofNat ((dig a).toNat * 16 + (dig b).toNat) :: c)
def readC (w : Bs) : Option Bs :=
  if w = [45] then some [] else if w = [] ∨ w.length % 2 ≠ 0 ∨ 128 < w.length then none else readH w
theorem hexs_length (c : Bs) : (hexs c).length = 2 * c.length := by
  induction c with
  | nil => rfl
  | cons b c ih => simp only [hexs, List.map_cons, List.flatten_cons, List.length_append, List.length_cons] at ih ⊢; rw [ih]; simp [hex2]; omega
theorem dig_hx : ∀ n : Fin 16, dig (hx n.val) = (n.val : Int) := by decide +kernel
theorem hx_dig : ∀ c : Fin 256, dig (UInt8.ofNat c.val) < 0 ∨ ((dig (UInt8.ofNat c.val)).toNat < 16 ∧ hx (dig (UInt8.ofNat c.val)).toNat = UInt8.ofNat c.val) := by decide +kernel
theorem hx_dig' (c : UInt8) : dig c < 0 ∨ ((dig c).toNat < 16 ∧ hx (dig c).toNat = c) := by
  have := hx_dig ⟨c.toNat, c.toNat_lt⟩
  simpa using this
theorem readH_hexs (c : Bs) : readH (hexs c) = some c := by
  induction c with
  | nil => rfl
  | cons b c ih =>
    have h1 := dig_hx ⟨b.toNat / 16, by have := b.toNat_lt; omega⟩
    have h2 := dig_hx ⟨b.toNat % 16, by omega⟩
    simp only [] at h1 h2
    show readH (hx (b.toNat / 16) :: hx (b.toNat % 16) :: hexs c) = _
    unfold readH
    rw [h1, h2, ih]
    have e1 : decide ((↑(b.toNat / 16) : Int) < 0) = false := by simp; omega
    have e2 : decide ((↑(b.toNat % 16) : Int) < 0) = false := by simp; omega
    rw [e1, e2]
    simp only [Bool.or_self, Bool.false_eq_true, if_false, Int.toNat_natCast]
    rw [show b.toNat / 16 * 16 + b.toNat % 16 = b.toNat by omega]
    simp
theorem readH_some : ∀ (w c : Bs), readH w = some c → hexs c = w
  | [], c, h => by simp [readH] at h; subst h; rfl
  | [_], c, h => by simp [readH] at h
  | a :: b :: r, c, h => by
    unfold readH at h
    rcases hx_dig' a with ha | ⟨ha, ha'⟩
    · simp [ha] at h
    rcases hx_dig' b with hb | ⟨hb, hb'⟩
    · simp [hb] at h
    split at h
    · simp at h
    · cases hr : readH r with
      | none => rw [hr] at h; simp at h
      | some c' =>
        rw [hr] at h
        simp only [Option.some.injEq] at h
        subst h
        have ih := readH_some r c' hr
        show hex2 _ ++ hexs c' = _
        rw [ih]
        have e : (UInt8.ofNat ((dig a).toNat * 16 + (dig b).toNat)).toNat = (dig a).toNat * 16 + (dig b).toNat := UInt8.toNat_ofNat_of_lt' (by show _ < 256; omega)
        simp only [hex2, e]
        rw [show ((dig a).toNat * 16 + (dig b).toNat) / 16 = (dig a).toNat by omega, show ((dig a).toNat * 16 + (dig b).toNat) % 16 = (dig b).toNat by omega, ha', hb']
        rfl
theorem hx_mem (n : Nat) (h : n < 16) : hx n ∈ digs := by
  unfold hx
  rw [List.getD_eq_getElem?_getD, List.getElem?_eq_getElem (by simpa [digs] using h)]
  simp
theorem hexs_mem (c : Bs) : ∀ x ∈ hexs c, x ∈ digs := by
  intro x hx'
  simp only [hexs, List.mem_flatten, List.mem_map] at hx'
  obtain ⟨l, ⟨b, _, rfl⟩, hl⟩ := hx'
  have hb := b.toNat_lt
  simp only [hex2, List.mem_cons, List.not_mem_nil, or_false] at hl
  rcases hl with rfl | rfl
  · exact hx_mem _ (by omega)
  · exact hx_mem _ (by omega)
theorem codeW_not (c : Bs) (x : UInt8) (h : x ∉ digs) (h2 : x ≠ 45) : x ∉ codeW c := by
  unfold codeW
  split
  · simp [h2]
  · exact fun hm => h (hexs_mem c x hm)
theorem readC_codeW (c : Bs) (h : c.length ≤ 64) : readC (codeW c) = some c := by
  unfold codeW
  by_cases hc : c = []
  · subst hc; rfl
  · rw [if_neg hc]
    have hl := hexs_length c
    have hp : 0 < c.length := List.length_pos_iff.2 hc
    unfold readC
    rw [if_neg (by intro e; rw [e] at hl; simp at hl; omega), if_neg (by
      rintro (e | e | e)
      · rw [e] at hl; simp at hl; omega
      · omega
      · omega), readH_hexs]
theorem readC_some (w c : Bs) (h : readC w = some c) : codeW c = w ∧ c.length ≤ 64 := by
  unfold readC at h
  split at h
  · simp at h; subst h; rename_i hw; subst hw; simp [codeW]
  · split at h
    · simp at h
    · rename_i h1 h2
      have := readH_some w c h
      have hl := hexs_length c
      rw [this] at hl
      have hc : c ≠ [] := by intro e; subst e; simp at hl; exact h2 (Or.inl hl)
      refine ⟨by rw [codeW, if_neg hc, this], by omega⟩

/-- words of lines -/
def wSource : Bs := [115, 111, 117, 114, 99, 101]
def wMake : Bs := [109, 97, 107, 101]
def wFrom : Bs := [102, 114, 111, 109]
def wBy : Bs := [98, 121]
def canA (a : Ac) : Bool := isNm a.1 && decide (a.2.1.length ≤ 4) && a.2.1.all isNm && decide (a.2.2.length ≤ 64)
def can (g : Gr) : Bool := decide (g.1.length ≤ 8) && decide (g.2.length ≤ 12) && g.1.all isNm && g.2.all canA
/-- the words behind an action's name up to its "by" -/
def midW (ins : List Bs) : List Bs := if ins = [] then [] else wFrom :: ins
def words (a : Ac) : List Bs := [wMake, a.1] ++ midW a.2.1 ++ [wBy, codeW a.2.2]
def line (ws : List Bs) : Bs := Lib.join ws [32] ++ [10]
def linesS (l : List Bs) : Bs := (l.map fun n => line [wSource, n]).flatten
def linesA (l : List Ac) : Bs := (l.map fun a => line (words a)).flatten
def text (g : Gr) : Bs := linesS g.1 ++ linesA g.2

def readIns (ws : List Bs) : Option (List Bs) := match ws with
  | [] => some []
  | f :: r => if f = wFrom ∧ r ≠ [] ∧ r.length ≤ 4 ∧ r.all isNm = true then some r else none
/-- the action that words behind "make" tell -/
def readA (ws : List Bs) : Option Ac :=
  if ws.length < 3 ∨ ws[ws.length - 2]? ≠ some wBy ∨ isNm (ws.headD []) = false then none
  else match readIns ((ws.drop 1).take (ws.length - 3)) with
    | none => none
    | some ins => match readC (ws.getLastD []) with
      | none => none
      | some c => some (ws.headD [], ins, c)
def addL (g : Gr) (ws : List Bs) : Option Gr := match ws with
  | [] => none
  | k :: r =>
    if k = wSource then (match r with
      | [n] => if g.2 = [] ∧ g.1.length ≠ 8 ∧ isNm n = true then some (g.1 ++ [n], g.2) else none
      | _ => none)
    else if k = wMake then (match readA r with
      | none => none
      | some a => if g.2.length = 12 then none else some (g.1, g.2 ++ [a]))
    else none
/-- what a text is read as, from line n on, behind g: a build, or a line's number and an error -/
def parseF : Nat → Gr → Nat → Bs → Gr ⊕ (Nat × Nat)
  | 0, g, n, t => .inl g
  | f + 1, g, n, t => if t = [] then .inl g else match cutL 10 t with
    | none => .inr (n, 3)
    | some (one, rest) => match addL g (spl 32 one) with
      | none => .inr (n, 24)
      | some g' => parseF f g' (n + 1) rest
def parse (t : Bs) : Gr ⊕ (Nat × Nat) := if 8192 < t.length then .inr (0, 4) else parseF t.length ([], []) 1 t
end Go.Proofs.YtjbffhdccgmfpaaGreatDoor.RC
