/- The ring on lists: places, points, who comes when. -/
import Derived.Test.YtfghjadhpajmeaaDoorMath
import Derived.Test.YtfghjadhpajmeaaDoorSMath
namespace Go.Proofs.YtfghjadhpajmeaaDoor
namespace RI
/-- the number of the first k bytes, the highest first -/
def plc (d : List UInt8) : Nat → Nat
  | 0 => 0
  | k + 1 => plc d k * 256 + (S.by8 d k).toNat
theorem plc_lt (d : List UInt8) : ∀ k, plc d k < 256 ^ k
  | 0 => by simp [plc]
  | k + 1 => by
    have h := plc_lt d k
    have hb : (S.by8 d k).toNat < 256 := (S.by8 d k).toNat_lt
    rw [plc, Nat.pow_succ]; omega
def place (d : List UInt8) : Nat := plc d 8
theorem place_lt (d : List UInt8) : place d < 18446744073709551616 := plc_lt d 8
/-- the text 'ring' -/
def word : List UInt8 := [114, 105, 110, 103]
def pt (node n : Int) : Nat := place (S.sha (M.rowB [word, M.numB node, M.numB n]))
theorem pt_lt (node n : Int) : pt node n < 18446744073709551616 := place_lt _
def dist (p q : Int) : Int := (q - p) % 18446744073709551616
theorem dist_pos (p q : Int) : 0 ≤ dist p q := by unfold dist; omega
theorem dist_lt (p q : Int) : dist p q < 18446744073709551616 := by unfold dist; omega
/-- how far the nearest of the points 0 to k is -/
def nearN (p node : Int) : Nat → Int
  | 0 => dist p (pt node 0)
  | k + 1 => min (nearN p node k) (dist p (pt node ((k + 1 : Nat) : Int)))
def near (p node : Int) : Int := nearN p node 7
theorem nearN_b (p node : Int) : ∀ k, 0 ≤ nearN p node k ∧ nearN p node k < 18446744073709551616
  | 0 => ⟨dist_pos _ _, dist_lt _ _⟩
  | k + 1 => by
    have h := nearN_b p node k
    have h1 := dist_pos p (pt node ((k + 1 : Nat) : Int))
    have h2 := dist_lt p (pt node ((k + 1 : Nat) : Int))
    unfold nearN; omega
theorem near_b (p node : Int) : 0 ≤ near p node ∧ near p node < 18446744073709551616 := nearN_b p node 7
/-- who comes first -/
def Lt (f : Int → Int) (a b : Int) : Prop := f a < f b ∨ (f a = f b ∧ a < b)
theorem lt_irr (f : Int → Int) (a : Int) : ¬ Lt f a a := by unfold Lt; omega
theorem lt_tr {f : Int → Int} {a b c : Int} (h : Lt f a b) (k : Lt f b c) : Lt f a c := by unfold Lt at *; omega
theorem lt_tri {f : Int → Int} {a b : Int} (h : ¬ Lt f b a) (hn : a ≠ b) : Lt f a b := by unfold Lt at *; omega
theorem uniq {R : Int → Int → Prop} (irr : ∀ a, ¬ R a a) (tr : ∀ {a b c}, R a b → R b c → R a c) : ∀ l1 l2 : List Int, l1.Pairwise R → l2.Pairwise R → (∀ x, x ∈ l1 ↔ x ∈ l2) → l1 = l2
  | [], [], _, _, _ => rfl
  | [], y :: l, _, _, h => by have := (h y).2 (by simp); simp at this
  | x :: l, [], _, _, h => by have := (h x).1 (by simp); simp at this
  | x :: l, y :: m, h1, h2, h => by
    rw [List.pairwise_cons] at h1 h2
    have hxy : x = y := by
      rcases List.mem_cons.1 ((h x).1 (by simp)) with e | e
      · exact e
      · rcases List.mem_cons.1 ((h y).2 (by simp)) with e2 | e2
        · exact e2.symm
        · exact absurd (tr (h2.1 x e) (h1.1 y e2)) (irr y)
    subst hxy
    rw [uniq irr tr l m h1.2 h2.2 (fun z => ?_)]
    have hz := h z
    simp only [List.mem_cons] at hz
    constructor
    · intro k
      rcases hz.1 (Or.inr k) with e | e
      · subst e; exact absurd (h1.1 z k) (irr z)
      · exact e
    · intro k
      rcases hz.2 (Or.inr k) with e | e
      · subst e; exact absurd (h2.1 z k) (irr z)
      · exact e
/-- out is the nodes of l, each once, in the order in which they come -/
structure IsW (f : Int → Int) (l out : List Int) : Prop where
  pw : out.Pairwise (Lt f)
  mem : ∀ x, x ∈ out ↔ (1 ≤ x ∧ x ≤ 6 ∧ x ∈ l)
  len : out.length ≤ 6
theorem IsW.uniq {f : Int → Int} {l m o p : List Int} (h : IsW f l o) (k : IsW f m p) (e : ∀ x, 1 ≤ x → x ≤ 6 → (x ∈ l ↔ x ∈ m)) : o = p :=
  RI.uniq (lt_irr f) lt_tr o p h.pw k.pw fun x => by
    rw [h.mem, k.mem]
    constructor
    · rintro ⟨h1, h2, h3⟩; exact ⟨h1, h2, (e x h1 h2).1 h3⟩
    · rintro ⟨h1, h2, h3⟩; exact ⟨h1, h2, (e x h1 h2).2 h3⟩
/-- without g -/
def wo (g : Int) (l : List Int) : List Int := l.filter (fun x => x != g)
theorem mem_wo {g : Int} {l : List Int} {x : Int} : x ∈ wo g l ↔ x ∈ l ∧ x ≠ g := by unfold wo; rw [List.mem_filter]; simp
theorem IsW.wo {f : Int → Int} {l o : List Int} (h : IsW f l o) (g : Int) : IsW f (wo g l) (RI.wo g o) where
  pw := h.pw.filter _
  mem x := by
    rw [mem_wo, mem_wo, h.mem]
    constructor
    · rintro ⟨⟨a, b, c⟩, d⟩; exact ⟨a, b, c, d⟩
    · rintro ⟨a, b, c, d⟩; exact ⟨⟨a, b, c⟩, d⟩
  len := Nat.le_trans (List.length_filter_le _ _) h.len
theorem IsW.nodup {f : Int → Int} {l o : List Int} (h : IsW f l o) : o.Pairwise (· ≠ ·) := h.pw.imp fun {a b} k e => by subst e; exact lt_irr f a k
/-- those of the nodes 1 to k that are in l -/
def cnd (l : List Int) : Nat → List Int
  | 0 => []
  | k + 1 => if l.contains ((k + 1 : Nat) : Int) then cnd l k ++ [((k + 1 : Nat) : Int)] else cnd l k
theorem cnd_len (l : List Int) : ∀ k, (cnd l k).length ≤ k
  | 0 => by simp [cnd]
  | k + 1 => by
    have h := cnd_len l k
    unfold cnd; split
    · rw [List.length_append]; simp; omega
    · omega
theorem cnd_yes {l : List Int} {k : Nat} (h : l.contains ((k : Int) + 1) = true) : cnd l (k + 1) = cnd l k ++ [(k : Int) + 1] := by
  have e : ((k + 1 : Nat) : Int) = (k : Int) + 1 := by omega
  conv => lhs; unfold cnd
  rw [e, if_pos h]
theorem cnd_no {l : List Int} {k : Nat} (h : l.contains ((k : Int) + 1) = false) : cnd l (k + 1) = cnd l k := by
  have e : ((k + 1 : Nat) : Int) = (k : Int) + 1 := by omega
  conv => lhs; unfold cnd
  rw [e, if_neg (by rw [h]; decide)]
theorem mem_cnd (l : List Int) (x : Int) : ∀ k, x ∈ cnd l k ↔ (1 ≤ x ∧ x ≤ (k : Int) ∧ x ∈ l)
  | 0 => by simp [cnd]; omega
  | k + 1 => by
    have h := mem_cnd l x k
    unfold cnd
    split
    · rename_i hc
      rw [List.contains_iff_mem] at hc
      rw [List.mem_append, h, List.mem_singleton]
      constructor
      · rintro (⟨a, b, c⟩ | rfl)
        · exact ⟨a, by omega, c⟩
        · exact ⟨by omega, by omega, hc⟩
      · rintro ⟨a, b, c⟩
        by_cases e : x = ((k + 1 : Nat) : Int)
        · exact Or.inr e
        · exact Or.inl ⟨a, by omega, c⟩
    · rename_i hc
      rw [h]
      constructor
      · rintro ⟨a, b, c⟩; exact ⟨a, by omega, c⟩
      · rintro ⟨a, b, c⟩
        refine ⟨a, ?_, c⟩
        by_cases e : x = ((k + 1 : Nat) : Int)
        · subst e
          exact absurd (by rw [List.contains_iff_mem]; exact c) hc
        · omega
theorem cnd_pw (l : List Int) : ∀ k, (cnd l k).Pairwise (· < ·)
  | 0 => by simp [cnd]
  | k + 1 => by
    have h := cnd_pw l k
    unfold cnd
    split
    · rw [List.pairwise_append]
      refine ⟨h, by simp, fun a ha b hb => ?_⟩
      rw [List.mem_singleton] at hb
      have := ((mem_cnd l a k).1 ha).2.1
      omega
    · exact h
/-- a node, and how far it is -/
def prs (f : Int → Int) (l : List Int) : List (Int × Int) := l.map fun x => (x, f x)
/-- what the sort makes of the nodes that are there is who comes when -/
theorem isW_sort {f : Int → Int} {l : List Int} {o : List (Int × Int)} (hp : o.Perm (prs f (cnd l 6))) (hs : o.Pairwise (fun a b => ¬ (b.2 < a.2 ∨ (b.2 = a.2 ∧ b.1 < a.1)))) : IsW f l (o.map (·.1)) := by
  have hm : ∀ x ∈ o, x.2 = f x.1 ∧ x.1 ∈ cnd l 6 := fun x hx => by
    have := hp.subset hx
    unfold prs at this
    rw [List.mem_map] at this
    obtain ⟨y, hy, rfl⟩ := this
    exact ⟨rfl, hy⟩
  have hnd : (o.map (·.1)).Nodup := by
    have h1 : (o.map (·.1)).Perm (cnd l 6) := by
      have h2 := hp.map (·.1)
      have h3 : (prs f (cnd l 6)).map (·.1) = cnd l 6 := by unfold prs; rw [List.map_map]; exact List.map_id _
      rwa [h3] at h2
    exact (h1.nodup_iff).2 ((cnd_pw l 6).imp (fun {a b} h => by omega))
  refine ⟨?_, fun x => ?_, ?_⟩
  · rw [List.pairwise_map]
    have hnd2 : o.Pairwise (fun a b => a.1 ≠ b.1) := by rwa [List.Nodup, List.pairwise_map] at hnd
    refine (hs.and hnd2).imp_of_mem fun {a b} ha hb h => ?_
    have e1 := (hm a ha).1
    have e2 := (hm b hb).1
    refine lt_tri (fun k => h.1 ?_) h.2
    unfold Lt at k
    rw [e1, e2]; exact k
  · rw [List.mem_map]
    constructor
    · rintro ⟨y, hy, rfl⟩
      have := (mem_cnd l y.1 6).1 (hm y hy).2
      exact ⟨this.1, by omega, this.2.2⟩
    · rintro ⟨a, b, c⟩
      have h1 : x ∈ cnd l 6 := (mem_cnd l x 6).2 ⟨a, by omega, c⟩
      refine ⟨(x, f x), hp.symm.subset ?_, rfl⟩
      unfold prs
      exact List.mem_map.2 ⟨x, h1, rfl⟩
  · rw [List.length_map, hp.length_eq]
    unfold prs
    rw [List.length_map]; exact cnd_len l 6
end RI
end Go.Proofs.YtfghjadhpajmeaaDoor
