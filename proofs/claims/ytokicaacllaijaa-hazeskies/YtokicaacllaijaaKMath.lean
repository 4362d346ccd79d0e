/- What is known of members, on lists: a view is what is known of each node. -/
namespace Go.Proofs.Ytokicaacllaijaa.K
set_option linter.unusedVariables false
set_option linter.unusedSimpArgs false

abbrev Me := Int × Int × Int
abbrev Good (m : Me) : Prop := 1 ≤ m.1 ∧ m.1 ≤ 6 ∧ 0 ≤ m.2.1 ∧ m.2.1 ≤ 1073741824 ∧ 0 ≤ m.2.2 ∧ m.2.2 ≤ 3
def good (m : Me) : Bool := decide (Good m)
abbrev Hi (a b : Me) : Prop := a.2.1 > b.2.1 ∨ a.2.1 = b.2.1 ∧ a.2.2 > b.2.2
def hi (a b : Me) : Bool := decide (Hi a b)
abbrev Above (a b : Me) : Prop := Good a ∧ Good b ∧ a.1 = b.1 ∧ Hi a b
def above (a b : Me) : Bool := decide (Above a b)
theorem above_eq (a b : Me) : above a b = (good a && good b && (a.1 == b.1) && hi a b) := by
  unfold above good hi
  rw [Bool.eq_iff_iff]
  simp only [decide_eq_true_eq, Bool.and_eq_true, beq_iff_eq, and_assoc]
theorem above_irr (a : Me) : above a a = false := by
  unfold above
  rw [decide_eq_false_iff_not]
  rintro ⟨_, _, _, h⟩
  unfold Hi at h; omega
theorem me_ext {a b : Me} (h0 : a.1 = b.1) (h1 : a.2.1 = b.2.1) (h2 : a.2.2 = b.2.2) : a = b := Prod.ext h0 (Prod.ext h1 h2)
/-- of two words of one node one stands above the other one, or they are the same -/
theorem tri (a b : Me) (h : a.1 = b.1) : a = b ∨ Hi a b ∨ Hi b a := by
  by_cases h1 : a.2.1 = b.2.1
  · by_cases h2 : a.2.2 = b.2.2
    · exact Or.inl (me_ext h h1 h2)
    · right; unfold Hi; omega
  · right; unfold Hi; omega

/-- what is known of each node -/
abbrev Vw := Int → Option Me
def e0 : Vw := fun _ => none
def news (f : Vw) (m : Me) : Bool := good m && (match f m.1 with | none => true | some o => above m o)
def stp (f : Vw) (m : Me) : Vw := if news f m = true then (fun k => if k = m.1 then some m else f k) else f
def mrg (f : Vw) (l : List Me) : Vw := l.foldl stp f
def tak : Vw → List Me → List Me
  | _, [] => []
  | f, m :: r => if news f m = true then m :: tak (stp f m) r else tak (stp f m) r
theorem mrg_nil (f : Vw) : mrg f [] = f := rfl
theorem mrg_app (f : Vw) (a b : List Me) : mrg f (a ++ b) = mrg (mrg f a) b := by simp [mrg]
theorem mrg_one (f : Vw) (m : Me) : mrg f [m] = stp f m := rfl
theorem tak_app : ∀ (f : Vw) (a b : List Me), tak f (a ++ b) = tak f a ++ tak (mrg f a) b
  | f, [], b => rfl
  | f, m :: r, b => by
    show tak f (m :: (r ++ b)) = _
    have ih := tak_app (stp f m) r b
    have e : mrg f (m :: r) = mrg (stp f m) r := rfl
    have t1 : ∀ l, tak f (m :: l) = if news f m = true then m :: tak (stp f m) l else tak (stp f m) l := fun l => rfl
    rw [t1, t1, e, ih]
    split <;> rfl
theorem mrg_take {f : Vw} {l : List Me} {k : Nat} {m : Me} (h : l[k]? = some m) : mrg f (l.take (k + 1)) = stp (mrg f (l.take k)) m := by
  rw [List.take_add_one, h, Option.toList_some, mrg_app, mrg_one]
theorem tak_take {f : Vw} {l : List Me} {k : Nat} {m : Me} (h : l[k]? = some m) : tak f (l.take (k + 1)) = tak f (l.take k) ++ if news (mrg f (l.take k)) m = true then [m] else [] := by
  rw [List.take_add_one, h, Option.toList_some, tak_app]
  rfl
theorem tak_len : ∀ (f : Vw) (l : List Me), (tak f l).length ≤ l.length
  | f, [] => Nat.le_refl _
  | f, m :: r => by
    have := tak_len (stp f m) r
    have t1 : tak f (m :: r) = if news f m = true then m :: tak (stp f m) r else tak (stp f m) r := rfl
    rw [t1]
    split <;> simp only [List.length_cons] <;> omega
/-- what is known is of its node, and can be -/
def Ok (f : Vw) : Prop := ∀ k m, f k = some m → Good m ∧ m.1 = k
theorem ok_e0 : Ok e0 := fun k m h => by cases h
theorem good_iff (m : Me) : good m = true ↔ Good m := by simp [good]
theorem news_good {f : Vw} {m : Me} (h : news f m = true) : Good m := by
  unfold news at h
  rw [Bool.and_eq_true] at h
  exact (good_iff m).1 h.1
theorem ok_stp {f : Vw} (h : Ok f) (m : Me) : Ok (stp f m) := by
  intro k x hx
  unfold stp at hx
  split at hx
  · rename_i hn
    simp only at hx
    split at hx
    · rename_i hk
      cases hx
      exact ⟨news_good hn, hk.symm⟩
    · exact h k x hx
  · exact h k x hx
theorem ok_mrg : ∀ (l : List Me) {f : Vw}, Ok f → Ok (mrg f l)
  | [], f, h => h
  | m :: r, f, h => ok_mrg r (ok_stp h m)
/-- just the highest of these words is known -/
def Is (S : Me → Prop) (f : Vw) : Prop := ∀ k, (f k = none → ∀ x, S x → Good x → x.1 ≠ k) ∧ ∀ m, f k = some m → S m ∧ Good m ∧ m.1 = k ∧ ∀ x, S x → Good x → x.1 = k → x = m ∨ Hi m x
theorem is_e0 : Is (fun _ => False) e0 := fun k => ⟨fun _ x h => False.elim h, fun m h => (by cases h)⟩
theorem hi_trans {a b c : Me} (h : Hi a b) (k : Hi b c) : Hi a c := by unfold Hi at *; omega
theorem is_stp {S : Me → Prop} {f : Vw} (h : Is S f) (m : Me) : Is (fun x => S x ∨ x = m) (stp f m) := by
  intro k
  obtain ⟨h1, h2⟩ := h k
  unfold stp
  by_cases hn : news f m = true
  · rw [if_pos hn]
    have hg := news_good hn
    by_cases hk : k = m.1
    · simp only [if_pos hk]
      refine ⟨fun e => (by cases e), fun y hy => ?_⟩
      cases hy
      refine ⟨Or.inr rfl, hg, hk.symm, fun x hx gx xk => ?_⟩
      rcases hx with hx | rfl
      · cases hf : f k with
        | none => exact absurd xk (h1 hf x hx gx)
        | some o =>
          obtain ⟨_, _, ok, om⟩ := h2 o hf
          have ha : above m o = true := by
            unfold news at hn
            rw [Bool.and_eq_true, ← hk, hf] at hn
            exact hn.2
          have ha' : Hi m o := (of_decide_eq_true ha).2.2.2
          rcases om x hx gx xk with rfl | hx'
          · exact Or.inr ha'
          · exact Or.inr (hi_trans ha' hx')
      · exact Or.inl rfl
    · simp only [if_neg hk]
      refine ⟨fun hf x hx gx => ?_, fun y hy => ?_⟩
      · rcases hx with hx | rfl
        · exact h1 hf x hx gx
        · exact fun e => hk e.symm
      · obtain ⟨a, b, c, d⟩ := h2 y hy
        refine ⟨Or.inl a, b, c, fun x hx gx xk => ?_⟩
        rcases hx with hx | rfl
        · exact d x hx gx xk
        · exact absurd xk.symm hk
  · rw [if_neg hn]
    refine ⟨fun hf x hx gx => ?_, fun y hy => ?_⟩
    · rcases hx with hx | rfl
      · exact h1 hf x hx gx
      · intro e
        apply hn
        unfold news
        rw [(good_iff x).2 gx, e, hf]; rfl
    · obtain ⟨a, b, c, d⟩ := h2 y hy
      refine ⟨Or.inl a, b, c, fun x hx gx xk => ?_⟩
      rcases hx with hx | rfl
      · exact d x hx gx xk
      · have hna : ¬ Above x y := fun ha => by
          apply hn
          unfold news
          rw [(good_iff x).2 gx, xk, hy]
          exact decide_eq_true ha
        rcases tri x y (xk.trans c.symm) with e | e | e
        · exact Or.inl e
        · exact absurd ⟨gx, b, xk.trans c.symm, e⟩ hna
        · exact Or.inr e
theorem is_mrg : ∀ (l : List Me) {S : Me → Prop} {f : Vw}, Is S f → Is (fun x => S x ∨ x ∈ l) (mrg f l)
  | [], S, f, h => by
    have e : (fun x => S x ∨ x ∈ ([] : List Me)) = S := by funext x; simp
    rw [e]; exact h
  | m :: r, S, f, h => by
    have ih := is_mrg r (is_stp h m)
    have e : (fun x => S x ∨ x ∈ m :: r) = (fun x => (S x ∨ x = m) ∨ x ∈ r) := by funext x; simp [or_assoc]
    rw [e]; exact ih
theorem is_ok {S : Me → Prop} {f : Vw} (h : Is S f) : Ok f := fun k m hm => ⟨((h k).2 m hm).2.1, ((h k).2 m hm).2.2.1⟩
theorem hi_asymm {a b : Me} (h : Hi a b) (k : Hi b a) : False := by unfold Hi at *; omega
/-- what is known hangs on which words came alone -/
theorem is_uniq {S T : Me → Prop} {f g : Vw} (h : Is S f) (k : Is T g) (e : ∀ x, S x ↔ T x) : f = g := by
  funext n
  obtain ⟨h1, h2⟩ := h n
  obtain ⟨k1, k2⟩ := k n
  cases hf : f n with
  | none =>
    cases hg : g n with
    | none => rfl
    | some y =>
      obtain ⟨a, b, c, _⟩ := k2 y hg
      exact absurd c (h1 hf y ((e y).2 a) b)
  | some x =>
    obtain ⟨a, b, c, d⟩ := h2 x hf
    cases hg : g n with
    | none => exact absurd c (k1 hg x ((e x).1 a) b)
    | some y =>
      obtain ⟨a', b', c', d'⟩ := k2 y hg
      congr 1
      rcases d y ((e y).2 a') b' c' with r | r
      · exact r.symm
      · rcases d' x ((e x).1 a) b c with q | q
        · exact q
        · exact (hi_asymm r q).elim
/-- what is known of each node, by rising nodes -/
def allN (f : Vw) (k : Nat) : List Me := (List.range k).filterMap fun (i : Nat) => f ((i : Int) + 1)
def all (f : Vw) : List Me := allN f 6
theorem allN_succ (f : Vw) (k : Nat) : allN f (k + 1) = allN f k ++ (f ((k : Int) + 1)).toList := by
  unfold allN
  rw [List.range_succ, List.filterMap_append]
  cases h : f ((k : Int) + 1) <;> simp [h]
theorem allN_len (f : Vw) : ∀ k, (allN f k).length ≤ k
  | 0 => Nat.le_refl _
  | k + 1 => by
    have := allN_len f k
    rw [allN_succ, List.length_append]
    cases f ((k : Int) + 1) <;> simp <;> omega
theorem all_of {f : Vw} (h : Ok f) {m : Me} (hm : m ∈ all f) : f m.1 = some m ∧ Good m := by
  unfold all allN at hm
  obtain ⟨i, hi, hf⟩ := List.mem_filterMap.1 hm
  obtain ⟨g, e⟩ := h _ _ hf
  rw [← e] at hf
  exact ⟨hf, g⟩
theorem all_mem {f : Vw} (h : Ok f) {k : Int} {m : Me} (hm : f k = some m) : m ∈ all f := by
  obtain ⟨g, e⟩ := h _ _ hm
  unfold Good at g
  unfold all allN
  refine List.mem_filterMap.2 ⟨(k - 1).toNat, by simp; omega, ?_⟩
  rw [show (((k - 1).toNat : Nat) : Int) + 1 = k by omega]
  exact hm
theorem is_mid {S T : Me → Prop} {f : Vw} (h : Is S f) (h1 : ∀ x, T x → S x ∨ x ∈ all f) (h2 : ∀ x, x ∈ all f → T x) : Is T f := by
  have ok := is_ok h
  intro k
  refine ⟨fun hf x hx gx => ?_, fun m hm => ?_⟩
  · rcases h1 x hx with hs | ha
    · exact (h k).1 hf x hs gx
    · intro e
      have := (all_of ok ha).1
      rw [e, hf] at this; cases this
  · obtain ⟨a, b, c, d⟩ := (h k).2 m hm
    refine ⟨h2 m (all_mem ok hm), b, c, fun x hx gx xk => ?_⟩
    rcases h1 x hx with hs | ha
    · exact d x hs gx xk
    · have := (all_of ok ha).1
      rw [xk, hm] at this
      exact Or.inl (Option.some.inj this).symm
/-- who is alive or doubted -/
def here (m : Me) : Bool := m.2.2 == 0 || m.2.2 == 1
def pres (f : Vw) : List Int := ((all f).filter here).map (·.1)
def preL (l : List Me) (k : Nat) : List Int := ((l.take k).filter here).map (·.1)
theorem preL_all (f : Vw) : preL (all f) (all f).length = pres f := by simp [preL, pres]
theorem preL_succ {l : List Me} {k : Nat} {m : Me} (h : l[k]? = some m) : preL l (k + 1) = preL l k ++ if here m = true then [m.1] else [] := by
  unfold preL
  rw [List.take_add_one, h, Option.toList_some, List.filter_append, List.map_append]
  congr 1
  by_cases e : here m = true <;> simp [e]
theorem preL_len (l : List Me) (k : Nat) : (preL l k).length ≤ k := by
  unfold preL
  rw [List.length_map]
  have h1 := List.length_filter_le here (l.take k)
  have h2 := List.length_take_le k l
  omega
end Go.Proofs.Ytokicaacllaijaa.K
