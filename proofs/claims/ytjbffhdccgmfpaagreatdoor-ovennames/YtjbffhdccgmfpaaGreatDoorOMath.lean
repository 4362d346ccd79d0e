/- What a build comes to, on lists: keys, results, what is told on, the kitchen's results. No program is named here. -/
import Derived.Test.YtjbffhdccgmfpaaGreatDoorTM3
import Derived.Test.YtjbffhdccgmfpaaGreatDoorQMath
import Derived.Test.YtjbffhdccgmfpaaGreatDoorSMath
namespace Go.Proofs.YtjbffhdccgmfpaaGreatDoor.O
open RC TR
set_option linter.unusedVariables false
set_option linter.unusedSimpArgs false

/-- a result: its code, its blob -/
abbrev Re := Int × List UInt8
/-- a source: its name, its blob -/
abbrev So := List UInt8 × List UInt8
def told (r : Re) : List UInt8 := if r.1 = 0 then 100 :: S.sha r.2 else 101 :: M.numB r.1
def kAct : List UInt8 := [97, 99, 116, 105, 111, 110]
def keyR (code : List UInt8) (l : List Re) : List (List UInt8) := [kAct, code] ++ l.map told
def key (code : List UInt8) (l : List Re) : List UInt8 := S.sha (M.rowB (keyR code l))
def isBad (r : Re) : Bool := decide (r.1 ≠ 0)
def bad (l : List Re) : Bool := l.any isBad
def mk (code : List UInt8) (l : List Re) : Re := if bad l = true then (34, []) else (((Q.run code (l.map (·.2))).code : Int), (Q.run code (l.map (·.2))).blob)
/-- results by names, the newest first -/
abbrev Mp := List (List UInt8 × Re)
def get : Mp → List UInt8 → Option Re
  | [], _ => none
  | x :: r, s => if x.1 = s then some x.2 else get r s
def gt (m : Mp) (s : List UInt8) : Re := (get m s).getD (0, [])
def cnt : Mp → Nat
  | [] => 0
  | x :: r => if (get r x.1).isSome = true then cnt r else cnt r + 1
def srcM (l : List So) : Mp := (l.map fun s => (s.1, ((0 : Int), s.2))).reverse
def ins (m : Mp) (l : List Bs) : List Re := l.map (gt m)
def step (g : Gr) (m : Mp) (p : Nat) : Mp := match g.2[p]? with | some a => (a.1, mk a.2.2 (ins m a.2.1)) :: m | none => m
def bakedN (g : Gr) (l : List So) (i : Nat) : Mp := ((fin g).order.take i).foldl (step g) (srcM l)
def baked (g : Gr) (l : List So) : Mp := (fin g).order.foldl (step g) (srcM l)
def nms (l : List So) : List Bs := l.map (·.1)
def lacks (m : Mp) (s : List UInt8) : Bool := !(get m s).isSome
def isWd (s : So) : Bool := decide (512 < s.2.length)
def err (g : Gr) (l : List So) : Nat :=
  if chk g ≠ 0 then chk g else if ¬ (nms l).Nodup then 21 else if l.length ≠ g.1.length ∨ g.1.any (lacks (srcM l)) = true then 22 else if l.any isWd = true then 33 else 0
def zd : List UInt8 := List.replicate 32 0
def build (g : Gr) (l : List So) : List (List UInt8 × Re) := g.2.map fun a => (a.1, gt (baked g l) a.1)
def keyA (m : Mp) (a : Ac) : List UInt8 := if (gt m a.1).1 = 34 then zd else key a.2.2 (ins m a.2.1)
def keys (g : Gr) (l : List So) : List (List UInt8) := g.2.map (keyA (baked g l))

theorem get_mem {m : Mp} {s : List UInt8} : (get m s).isSome = true ↔ s ∈ m.map (·.1) := by
  induction m with
  | nil => simp [get]
  | cons x r ih =>
    unfold get
    by_cases h : x.1 = s
    · simp [h]
    · rw [if_neg h, ih]
      rw [List.map_cons, List.mem_cons]
      exact ⟨Or.inr, fun e => e.resolve_left fun e => h e.symm⟩
theorem get_cons_same (s : List UInt8) (r : Re) (m : Mp) : get ((s, r) :: m) s = some r := by simp [get]
theorem get_cons_other {s t : List UInt8} (r : Re) (m : Mp) (h : s ≠ t) : get ((s, r) :: m) t = get m t := by simp [get, h]
theorem cnt_le : ∀ m : Mp, cnt m ≤ m.length
  | [] => Nat.le_refl _
  | x :: r => by
    unfold cnt
    have := cnt_le r
    split <;> simp <;> omega
theorem cnt_eq : ∀ m : Mp, cnt m = m.length ↔ (m.map (·.1)).Nodup
  | [] => by simp [cnt]
  | x :: r => by
    unfold cnt
    have h1 := cnt_le r
    have h2 := cnt_eq r
    rw [List.map_cons, List.nodup_cons, ← h2]
    split
    · rename_i h
      constructor
      · intro e; simp at e; omega
      · intro e; exact absurd (get_mem.1 h) e.1
    · rename_i h
      have hn : x.1 ∉ r.map (·.1) := fun e => h (get_mem.2 e)
      simp only [List.length_cons]
      constructor
      · intro e; exact ⟨hn, by omega⟩
      · intro e; omega
theorem srcM_names (l : List So) : (srcM l).map (·.1) = (nms l).reverse := by
  unfold srcM nms
  rw [List.map_reverse, List.map_map]; rfl
theorem srcM_len (l : List So) : (srcM l).length = l.length := by simp [srcM]
theorem srcM_nodup (l : List So) : cnt (srcM l) = l.length ↔ (nms l).Nodup := by
  rw [← srcM_len, cnt_eq, srcM_names, (List.reverse_perm _).nodup_iff]
theorem srcM_snoc (l : List So) (s : So) : srcM (l ++ [s]) = (s.1, ((0 : Int), s.2)) :: srcM l := by simp [srcM]
theorem srcM_take {l : List So} {k : Nat} {s : So} (h : l[k]? = some s) : srcM (l.take (k + 1)) = (s.1, ((0 : Int), s.2)) :: srcM (l.take k) := by
  have hk : k < l.length := (List.getElem?_eq_some_iff.1 h).1
  have e : l.take (k + 1) = l.take k ++ [s] := by
    rw [List.take_add_one, h]; rfl
  rw [e, srcM_snoc]
theorem lacks_src (l : List So) (s : List UInt8) : lacks (srcM l) s = decide (s ∉ nms l) := by
  unfold lacks
  have := get_mem (m := srcM l) (s := s)
  rw [srcM_names, List.mem_reverse] at this
  by_cases h : s ∈ nms l
  · simp [this.2 h, h]
  · have h2 : (get (srcM l) s).isSome = false := by
      cases hh : (get (srcM l) s).isSome
      · rfl
      · exact absurd (this.1 hh) h
    simp [h2, h]
theorem get_at : ∀ {m : Mp} {s : List UInt8} {r : Re}, (m.map (·.1)).Nodup → (s, r) ∈ m → get m s = some r
  | x :: m, s, r, hn, hm => by
    unfold get
    rw [List.map_cons, List.nodup_cons] at hn
    rcases List.mem_cons.1 hm with rfl | hm
    · simp
    · have : x.1 ≠ s := fun e => hn.1 (by rw [e]; exact List.mem_map.2 ⟨(s, r), hm, rfl⟩)
      rw [if_neg this]
      exact get_at hn.2 hm
theorem get_src {l : List So} (hn : (nms l).Nodup) {s : So} (hs : s ∈ l) : get (srcM l) s.1 = some (0, s.2) := by
  refine get_at (by rw [srcM_names, (List.reverse_perm _).nodup_iff]; exact hn) ?_
  unfold srcM
  rw [List.mem_reverse]
  exact List.mem_map.2 ⟨s, hs, rfl⟩

/-- a build with sources that can be made -/
structure Ok (g : Gr) (l : List So) : Prop where
  good : TR.Good g
  nd : (nms l).Nodup
  len : l.length = g.1.length
  all : ∀ s ∈ g.1, s ∈ nms l
  blob : ∀ s ∈ l, s.2.length ≤ 512
theorem err_zero {g : Gr} {l : List So} : err g l = 0 ↔ Ok g l := by
  have hsub : g.1.any (lacks (srcM l)) = true ↔ ∃ s ∈ g.1, s ∉ nms l := by
    rw [List.any_eq_true]
    constructor
    · rintro ⟨s, h1, h2⟩; rw [lacks_src] at h2; exact ⟨s, h1, of_decide_eq_true h2⟩
    · rintro ⟨s, h1, h2⟩; exact ⟨s, h1, by rw [lacks_src]; exact decide_eq_true h2⟩
  have hw : l.any isWd = true ↔ ∃ s ∈ l, 512 < s.2.length := by
    rw [List.any_eq_true]
    constructor
    · rintro ⟨s, h1, h2⟩; exact ⟨s, h1, of_decide_eq_true h2⟩
    · rintro ⟨s, h1, h2⟩; exact ⟨s, h1, decide_eq_true h2⟩
  unfold err
  by_cases h1 : chk g = 0
  · rw [if_neg (by omega)]
    by_cases h2 : (nms l).Nodup
    · rw [if_neg (by simp [h2])]
      by_cases h3 : l.length ≠ g.1.length ∨ g.1.any (lacks (srcM l)) = true
      · rw [if_pos h3]
        constructor
        · intro e; omega
        · intro h
          rcases h3 with h3 | h3
          · exact absurd h.len h3
          · obtain ⟨s, a, b⟩ := hsub.1 h3
            exact absurd (h.all s a) b
      · rw [if_neg h3]
        by_cases h4 : l.any isWd = true
        · rw [if_pos h4]
          constructor
          · intro e; omega
          · intro h
            obtain ⟨s, a, b⟩ := hw.1 h4
            have := h.blob s a
            omega
        · rw [if_neg h4]
          refine ⟨fun _ => ⟨chk_zero.1 h1, h2, ?_, ?_, ?_⟩, fun _ => rfl⟩
          · exact Decidable.byContradiction fun e => h3 (Or.inl e)
          · intro s hs
            exact Decidable.byContradiction fun e => h3 (Or.inr (hsub.2 ⟨s, hs, e⟩))
          · intro s hs
            exact Nat.le_of_not_lt fun e => h4 (hw.2 ⟨s, hs, e⟩)
    · rw [if_pos (by simp [h2])]
      exact ⟨fun e => by omega, fun h => absurd h.nd h2⟩
  · rw [if_pos (by omega)]
    exact ⟨fun e => absurd e h1, fun h => absurd (chk_zero.2 h.good) h1⟩
theorem sub_eq : ∀ {A B : List Bs}, A.Nodup → (∀ s ∈ A, s ∈ B) → B.length = A.length → ∀ s ∈ B, s ∈ A
  | [], B, _, _, hl, s, hs => by
    have : B = [] := List.length_eq_zero_iff.1 (by simpa using hl)
    rw [this] at hs; cases hs
  | a :: A, B, hn, hs, hl, s, hb => by
    rw [List.nodup_cons] at hn
    have ha : a ∈ B := hs a (by simp)
    by_cases e : s = a
    · subst e; simp
    · have := sub_eq (A := A) (B := B.erase a) hn.2 (fun x hx => by
        have hxa : x ≠ a := fun e => hn.1 (by rw [← e]; exact hx)
        exact (List.mem_erase_of_ne hxa).2 (hs x (by simp [hx]))) (by rw [List.length_erase_of_mem ha, hl]; simp) s ((List.mem_erase_of_ne e).2 hb)
      simp [this]
theorem nodup_src {g : Gr} (h : TR.Good g) : g.1.Nodup := by
  have := h.nd
  unfold nm at this
  exact (List.nodup_append.1 this).1
theorem Ok.back {g : Gr} {l : List So} (h : Ok g l) : ∀ s ∈ nms l, s ∈ g.1 := sub_eq (nodup_src h.good) h.all (by unfold nms; rw [List.length_map]; exact h.len)

theorem bakedN_zero (g : Gr) (l : List So) : bakedN g l 0 = srcM l := by simp [bakedN]
theorem bakedN_all (g : Gr) (l : List So) : bakedN g l (fin g).order.length = baked g l := by simp [bakedN, baked]
theorem bakedN_succ {g : Gr} {l : List So} {i p : Nat} {t : Ac} (hi : (fin g).order[i]? = some p) (ht : g.2[p]? = some t) : bakedN g l (i + 1) = (t.1, mk t.2.2 (ins (bakedN g l i) t.2.1)) :: bakedN g l i := by
  unfold bakedN
  rw [List.take_add_one, hi, Option.toList_some, List.foldl_append]
  simp only [List.foldl_cons, List.foldl_nil]
  rw [show step g (List.foldl (step g) (srcM l) (List.take i (fin g).order)) p = (t.1, mk t.2.2 (ins (List.foldl (step g) (srcM l) (List.take i (fin g).order)) t.2.1)) :: List.foldl (step g) (srcM l) (List.take i (fin g).order) from by unfold step; rw [ht]]
theorem order_at {g : Gr} (h : TR.Good g) {i : Nat} (hi : i < (fin g).order.length) : ∃ p t, (fin g).order[i]? = some p ∧ g.2[p]? = some t := by
  refine ⟨(fin g).order[i], g.2[(fin g).order[i]]'(h.inv.lt _ (List.getElem_mem hi)), List.getElem?_eq_getElem hi, List.getElem?_eq_getElem _⟩
theorem dn_mono {g : Gr} {i j : Nat} (h : i ≤ j) {s : Bs} (hs : s ∈ dn g i) : s ∈ dn g j := by
  unfold dn at *
  rcases List.mem_append.1 hs with hs | hs
  · exact List.mem_append.2 (Or.inl hs)
  · obtain ⟨p, hp, rfl⟩ := List.mem_map.1 hs
    refine List.mem_append.2 (Or.inr (List.mem_map.2 ⟨p, ?_, rfl⟩))
    obtain ⟨k, hk⟩ := List.mem_iff_getElem?.1 hp
    have hki : k < i := by
      have := (List.getElem?_eq_some_iff.1 hk).1
      rw [List.length_take] at this; omega
    refine List.mem_iff_getElem?.2 ⟨k, ?_⟩
    rw [List.getElem?_take, if_pos hki] at hk
    rw [List.getElem?_take, if_pos (by omega), hk]
theorem stays {g : Gr} (h : TR.Good g) (l : List So) {i : Nat} {s : Bs} (hs : s ∈ dn g i) : ∀ k, i + k ≤ (fin g).order.length → get (bakedN g l (i + k)) s = get (bakedN g l i) s
  | 0, _ => rfl
  | k + 1, hk => by
    obtain ⟨p, t, hp, ht⟩ := order_at h (i := i + k) (by omega)
    rw [← Nat.add_assoc, bakedN_succ hp ht, get_cons_other _ _ (fun e => dn_not h hp ht (by rw [e]; exact dn_mono (by omega) hs))]
    exact stays h l hs k (by omega)
theorem stays_all {g : Gr} (h : TR.Good g) (l : List So) {i : Nat} (hi : i ≤ (fin g).order.length) {s : Bs} (hs : s ∈ dn g i) : get (baked g l) s = get (bakedN g l i) s := by
  have := stays h l hs ((fin g).order.length - i) (by omega)
  rw [show i + ((fin g).order.length - i) = (fin g).order.length from by omega, bakedN_all] at this
  exact this
theorem ins_all {g : Gr} (h : TR.Good g) (l : List So) {i : Nat} (hi : i ≤ (fin g).order.length) {xs : List Bs} (hs : ∀ s ∈ xs, s ∈ dn g i) : ins (bakedN g l i) xs = ins (baked g l) xs := by
  unfold ins
  refine List.map_congr_left fun s hs' => ?_
  unfold gt
  rw [stays_all h l hi (hs s hs')]
/-- each action comes to what its code makes of what its inputs came to -/
theorem get_act {g : Gr} (h : TR.Good g) (l : List So) {p : Nat} {t : Ac} (ht : g.2[p]? = some t) : get (baked g l) t.1 = some (mk t.2.2 (ins (baked g l) t.2.1)) := by
  have hp : p < g.2.length := (List.getElem?_eq_some_iff.1 ht).1
  obtain ⟨i, hi⟩ := List.mem_iff_getElem?.1 (h.all hp)
  have hil : i < (fin g).order.length := (List.getElem?_eq_some_iff.1 hi).1
  have hd : t.1 ∈ dn g (i + 1) := by rw [dn_succ hi ht]; simp
  rw [stays_all h l (by omega) hd, bakedN_succ hi ht, get_cons_same, ins_all h l (by omega) (dn_ins h hi ht)]
theorem gt_act {g : Gr} (h : TR.Good g) (l : List So) {p : Nat} {t : Ac} (ht : g.2[p]? = some t) : gt (baked g l) t.1 = mk t.2.2 (ins (baked g l) t.2.1) := by
  unfold gt; rw [get_act h l ht]; rfl
theorem get_source {g : Gr} {l : List So} (h : Ok g l) {s : So} (hs : s ∈ l) : get (baked g l) s.1 = some (0, s.2) := by
  have hd : s.1 ∈ dn g 0 := by rw [dn_zero]; exact h.back _ (List.mem_map.2 ⟨s, hs, rfl⟩)
  rw [stays_all h.good l (Nat.zero_le _) hd, bakedN_zero, get_src h.nd hs]
theorem gt_source {g : Gr} {l : List So} (h : Ok g l) {s : So} (hs : s ∈ l) : gt (baked g l) s.1 = (0, s.2) := by
  unfold gt; rw [get_source h hs]; rfl
theorem names_le (g : Gr) (l : List So) : ∀ i, (bakedN g l i).length ≤ l.length + i
  | 0 => by rw [bakedN_zero, srcM_len]; omega
  | i + 1 => by
    by_cases hi : i < (fin g).order.length
    · unfold bakedN
      rw [List.take_add_one, List.getElem?_eq_getElem hi, Option.toList_some, List.foldl_append]
      simp only [List.foldl_cons, List.foldl_nil]
      have := names_le g l i
      unfold bakedN at this
      generalize List.foldl (step g) (srcM l) (List.take i (fin g).order) = m at *
      unfold step
      split
      · simp; omega
      · omega
    · have e : bakedN g l (i + 1) = bakedN g l i := by unfold bakedN; rw [List.take_of_length_le (by omega), List.take_of_length_le (by omega)]
      rw [e]
      have := names_le g l i
      omega
end Go.Proofs.YtjbffhdccgmfpaaGreatDoor.O
