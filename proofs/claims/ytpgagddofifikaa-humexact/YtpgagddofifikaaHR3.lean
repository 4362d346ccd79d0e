/- The reference's Take. -/
import Derived.Test.YtpgagddofifikaaHR2
namespace Go.Proofs.Ytpgagddofifikaa
open Go.RowKit Go.Maps
set_option linter.unusedVariables false
set_option linter.unusedSimpArgs false

/-- who may be told next -/
def Cd (F : HU.St) (k : Nat) (j : Nat) : Prop := HU.inT F k j = false ∧ 0 < (F j).2
/-- the best of the nodes below i; 0: none -/
def BI (F : HU.St) (k i b : Nat) : Prop := (b = 0 ∧ ∀ j, 1 ≤ j → j < i → ¬ Cd F k j) ∨ (1 ≤ b ∧ b < i ∧ Cd F k b ∧ ∀ j, 1 ≤ j → j < i → Cd F k j → ((F j).2 < (F b).2 ∨ ((F j).2 = (F b).2 ∧ b ≤ j)))
theorem BI.start (F : HU.St) (k : Nat) : BI F k 1 0 := Or.inl ⟨rfl, fun j h1 h2 => by omega⟩
theorem BI.skip {F : HU.St} {k i b : Nat} (h : BI F k i b) (hc : ¬ Cd F k i) : BI F k (i + 1) b := by
  rcases h with ⟨h1, h2⟩ | ⟨h1, h2, h3, h4⟩
  · refine Or.inl ⟨h1, fun j h5 h6 => ?_⟩
    by_cases e : j = i
    · rw [e]; exact hc
    · exact h2 j h5 (by omega)
  · refine Or.inr ⟨h1, by omega, h3, fun j h5 h6 c => ?_⟩
    by_cases e : j = i
    · rw [e] at c; exact absurd c hc
    · exact h4 j h5 (by omega) c
theorem BI.first {F : HU.St} {k i : Nat} (h : BI F k i 0) (hi : 1 ≤ i) (hc : Cd F k i) : BI F k (i + 1) i := by
  rcases h with ⟨h1, h2⟩ | ⟨h1, h2, h3, h4⟩
  · refine Or.inr ⟨hi, by omega, hc, fun j h5 h6 c => ?_⟩
    by_cases e : j = i
    · subst e; exact Or.inr ⟨rfl, Nat.le_refl _⟩
    · exact absurd c (h2 j h5 (by omega))
  · omega
theorem BI.better {F : HU.St} {k i b : Nat} (h : BI F k i b) (hb : b ≠ 0) (hi : 1 ≤ i) (hc : Cd F k i) (hm : (F i).2 > (F b).2) : BI F k (i + 1) i := by
  rcases h with ⟨h1, h2⟩ | ⟨h1, h2, h3, h4⟩
  · exact absurd h1 hb
  · refine Or.inr ⟨hi, by omega, hc, fun j h5 h6 c => ?_⟩
    by_cases e : j = i
    · subst e; exact Or.inr ⟨rfl, Nat.le_refl _⟩
    · left
      have := h4 j h5 (by omega) c
      omega
theorem BI.worse {F : HU.St} {k i b : Nat} (h : BI F k i b) (hb : b ≠ 0) (hm : ¬ (F i).2 > (F b).2) : BI F k (i + 1) b := by
  rcases h with ⟨h1, h2⟩ | ⟨h1, h2, h3, h4⟩
  · exact absurd h1 hb
  · refine Or.inr ⟨h1, by omega, h3, fun j h5 h6 c => ?_⟩
    by_cases e : j = i
    · subst e
      rcases (by omega : (F j).2 < (F b).2 ∨ (F j).2 = (F b).2) with h | h
      · exact Or.inl h
      · exact Or.inr ⟨h, by omega⟩
    · exact h4 j h5 (by omega) c
theorem inT_zero (F : HU.St) (i : Int) : HU.inT F 0 i = false := by unfold HU.inT; simp
theorem inT_succ {F : HU.St} {k : Nat} {r : HU.Ru} (h : (HU.tl F)[k]? = some r) (i : Int) : HU.inT F (k + 1) i = (HU.inT F k i || (r.1.1 == i)) := by
  unfold HU.inT; rw [List.take_add_one, h]; simp
theorem tl_cd {F : HU.St} {T : Int} (ok : HU.Ok F T) {k : Nat} {r : HU.Ru} (h : (HU.tl F)[k]? = some r) : ∃ n : Nat, 1 ≤ n ∧ n < 7 ∧ r.1.1 = (n : Int) ∧ Cd F k n ∧ F n = r := by
  have rp := HU.rep_tl ok
  have hm := (rp.mem r).1 (List.mem_of_getElem? h)
  refine ⟨r.1.1.toNat, by omega, by omega, by omega, ?_, ?_⟩
  · have e : ((r.1.1.toNat : Nat) : Int) = r.1.1 := by omega
    unfold Cd
    rw [e, hm.1]
    refine ⟨?_, hm.2.1⟩
    cases hin : HU.inT F k r.1.1 with
    | false => rfl
    | true =>
      exfalso
      obtain ⟨s, hs, e2⟩ := (HU.inT_iff F k _).1 hin
      have hsr := rp.same (List.mem_of_mem_take hs) (List.mem_of_getElem? h) e2
      subst hsr
      obtain ⟨j, hj⟩ := List.mem_iff_getElem?.1 hs
      rw [List.getElem?_take] at hj
      split at hj
      · rename_i hjk
        have := (List.getElem?_inj (j := k) (List.getElem?_eq_some_iff.1 hj).1 rp.ndl).1 (by rw [hj, h])
        omega
      · cases hj
  · have e : ((r.1.1.toNat : Nat) : Int) = r.1.1 := by omega
    rw [e]; exact hm.1
theorem BI.no7 {F : HU.St} {T : Int} (ok : HU.Ok F T) {k : Nat} (h : BI F k 7 0) (hk : k ≤ (HU.tl F).length) : k = (HU.tl F).length := by
  rcases (by omega : k = (HU.tl F).length ∨ k < (HU.tl F).length) with e | e
  · exact e
  · obtain ⟨n, n1, n2, _, hc, _⟩ := tl_cd ok (List.getElem?_eq_getElem e)
    rcases h with ⟨_, h2⟩ | ⟨h1, _⟩
    · exact absurd hc (h2 n n1 n2)
    · omega
theorem BI.at7 {F : HU.St} {T : Int} (ok : HU.Ok F T) {k b : Nat} (h : BI F k 7 b) (hb : b ≠ 0) : 1 ≤ b ∧ b < 7 ∧ (HU.tl F)[k]? = some (F b) ∧ (F b).1.1 = (b : Int) := by
  rcases h with ⟨h1, _⟩ | ⟨h1, h2, h3, h4⟩
  · exact absurd h1 hb
  have rp := HU.rep_tl ok
  have hat := ok.at' (b : Int) h3.2
  have hmem : F b ∈ HU.tl F := (rp.mem _).2 ⟨by rw [hat.2], h3.2, by omega, by omega⟩
  have hnt : F b ∉ (HU.tl F).take k := fun hm => by
    have := (HU.inT_iff F k (b : Int)).2 ⟨F b, hm, hat.2⟩
    rw [h3.1] at this; cases this
  have hsp := List.take_append_drop k (HU.tl F)
  have hd : F b ∈ (HU.tl F).drop k := by
    rw [← hsp, List.mem_append] at hmem
    rcases hmem with h | h
    · exact absurd h hnt
    · exact h
  have hkl : k < (HU.tl F).length := by
    rcases Nat.lt_or_ge k (HU.tl F).length with h | h
    · exact h
    · rw [List.drop_eq_nil_of_le h] at hd; cases hd
  have hdr := List.drop_eq_getElem_cons hkl
  obtain ⟨r, hr⟩ : ∃ r, (HU.tl F)[k]? = some r := ⟨_, List.getElem?_eq_getElem hkl⟩
  have er : (HU.tl F)[k] = r := (List.getElem?_eq_some_iff.1 hr).2
  obtain ⟨n, n1, n2, hn, hc, hFn⟩ := tl_cd ok hr
  have hle := h4 n n1 n2 hc
  have hrb : r = F b := by
    rw [hdr, er] at hd
    rcases List.mem_cons.1 hd with e | e
    · exact e.symm
    · have hp := HU.tl_sorted F
      rw [← hsp, List.pairwise_append, hdr, er] at hp
      have h5 := (List.pairwise_cons.1 hp.2.1).1 (F b) e
      rw [HU.leT_iff, hn, hat.2] at h5
      rw [hFn] at hle
      refine rp.same (List.mem_of_getElem? hr) hmem ?_
      rw [hn, hat.2]
      omega
  refine ⟨h1, h2, by rw [hr, hrb], hat.2⟩
/-- marks, as cells -/
structure BA (C : Array Value) (f : Nat → Bool) : Prop where
  size : C.size = 7
  at' : ∀ j : Nat, j < 7 → C[j]? = some (.bool (f j))
theorem BA.put {C : Array Value} {f : Nat → Bool} (h : BA C f) (n : Nat) (hn : n < 7) : BA (C.setIfInBounds n (.bool true)) (fun j => f j || ((n : Int) == (j : Int))) := by
  have hs := h.size
  refine ⟨by simp [hs], fun p hp => ?_⟩
  rw [Array.getElem?_setIfInBounds]
  by_cases e : n = p
  · subst e
    simp [hs, hn]
  · have : ((n : Int) == (p : Int)) = false := by rw [beq_eq_false_iff_ne]; omega
    rw [if_neg e, this, Bool.or_false]; exact h.at' p hp
theorem BA.new {f : Nat → Bool} (h : ∀ j, f j = false) : BA z7b f := ⟨rfl, fun j hj => by
  rw [h]
  rcases (by omega : j = 0 ∨ j = 1 ∨ j = 2 ∨ j = 3 ∨ j = 4 ∨ j = 5 ∨ j = 6) with rfl | rfl | rfl | rfl | rfl | rfl | rfl <;> rfl⟩
/-- in the middle of a taking: k are told -/
structure TQ (W : World) (F : HU.St) (k tb : Nat) (u : Value) (wr : World) : Prop where
  bl : Bl W wr
  own : wr.ownsRow W.heap.size 41 3 u (HU.told F k).length (flG lyM (HU.told F k))
  arr : ∃ C, wr.heap[tb]? = some (.cells C 43 (0, 0)) ∧ BA C (fun j => HU.inT F k j)
  tb : W.heap.size ≤ tb
theorem TQ.grow {W wr wx : World} {F : HU.St} {k tb : Nat} {u : Value} (h : TQ W F k tb u wr) (hb : Bl wr wx) : TQ W F k tb u wx := by
  obtain ⟨h1, h2, ⟨C, h3, h4⟩, h5⟩ := h
  exact ⟨h1.step hb, ownsRow_bl h2 hb, ⟨C, by rw [Below.block hb _ (lt_heap h3)]; exact h3, h4⟩, h5⟩
/-- and the first i nodes' rumours are told once less -/
def tkN (F : HU.St) (k i : Nat) : HU.St := fun j => if HU.inT F k j = true ∧ j < (i : Int) then HU.dec (F j) else F j
structure TE (W : World) (r : Nat) (T : Int) (F : HU.St) (k tb : Nat) (u : Value) (i : Nat) (wx : World) : Prop where
  of : Of1 r W wx
  h : RH wx r T (tkN F k i)
  own : wx.ownsRow W.heap.size 41 3 u (HU.told F k).length (flG lyM (HU.told F k))
  arr : ∃ C, wx.heap[tb]? = some (.cells C 43 (0, 0)) ∧ BA C (fun j => HU.inT F k j)
  rW : r < W.heap.size
theorem TE.start {W wr : World} {r : Nat} {T : Int} {F : HU.St} {k tb : Nat} {u : Value} (x : RH W r T F) (ok : HU.Ok F T) (h : TQ W F k tb u wr) : TE W r T F k tb u 1 wr := by
  have e : tkN F k 1 = F := by
    funext j
    unfold tkN
    split
    · rename_i hh
      obtain ⟨s, hs, e⟩ := (HU.inT_iff F k j).1 hh.1
      have := ((HU.rep_tl ok).mem s).1 (List.mem_of_mem_take hs)
      omega
    · rfl
  exact ⟨Of1.of_bl h.bl, by rw [e]; exact x.grow h.bl, h.own, h.arr, x.lt⟩
theorem TE.cn {W wx : World} {r : Nat} {T : Int} {F : HU.St} {k tb : Nat} {u : Value} {i : Nat} (h : TE W r T F k tb u i wx) (j : Nat) (hj : j < 7) : wx.cell? ⟨tb, j, none⟩ = some (.bool (HU.inT F k j)) ∧ (i = j → wx.cell? ⟨r, 1 + j * 4 + 3, none⟩ = some (.int .i64 (F j).2)) ∧ wx.frozen? ⟨r, 1 + j * 4 + 3, none⟩ = false := by
  obtain ⟨C, h3, h4⟩ := h.arr
  obtain ⟨_, _, _, _, q, fz⟩ := h.h.cn j hj
  refine ⟨by rw [Lib.cell_of_heap h3]; exact h4.at' j hj, fun e => ?_, fz _⟩
  have e2 : tkN F k i j = F j := by unfold tkN; rw [if_neg (by omega)]
  rw [e2] at q; exact q
theorem TE.skip {W wx : World} {r : Nat} {T : Int} {F : HU.St} {k tb : Nat} {u : Value} {i : Nat} (h : TE W r T F k tb u i wx) (hin : HU.inT F k i = false) : TE W r T F k tb u (i + 1) wx := by
  have e : tkN F k (i + 1) = tkN F k i := by
    funext j
    unfold tkN
    by_cases e : j = (i : Int)
    · subst e
      simp [hin]
    · have : (j < ((i + 1 : Nat) : Int)) ↔ (j < (i : Int)) := by omega
      simp only [this]
  exact ⟨h.of, by rw [e]; exact h.h, h.own, h.arr, h.rW⟩
theorem TE.step {W wx : World} {r : Nat} {T : Int} {F : HU.St} {k tb : Nat} {u : Value} {i : Nat} (h : TE W r T F k tb u i wx) (hi : i < 7) (hin : HU.inT F k i = true) : TE W r T F k tb u (i + 1) (wx.drew.setCell ⟨r, 1 + i * 4 + 3, none⟩ (.int .i64 ((F i).2 - 1))) := by
  have e : tkN F k (i + 1) = fun j => if j = (i : Int) then ((tkN F k i j).1, (F i).2 - 1) else tkN F k i j := by
    funext j
    unfold tkN
    by_cases e : j = (i : Int)
    · subst e
      rw [if_pos ⟨hin, by omega⟩, if_pos rfl, if_neg (by omega)]; rfl
    · have : (j < ((i + 1 : Nat) : Int)) ↔ (j < (i : Int)) := by omega
      simp only [this, if_neg e]
  have hg := grown_setCell wx.drew r (1 + i * 4 + 3) (.int .i64 ((F i).2 - 1))
  obtain ⟨C, h3, h4⟩ := h.arr
  have h3' : wx.drew.heap[tb]? = some (.cells C 43 (0, 0)) := h3
  have hx := h.h.grow (Bl.refl wx).drew
  obtain ⟨D, hD, _⟩ := hx
  refine ⟨(h.of.trans (Of1.of_bl (Bl.refl wx).drew)).trans (Of1.of_grown hg), by rw [e]; exact RH.more (h.h.grow (Bl.refl wx).drew) i hi _, ?_, ⟨C, ?_, h4⟩, h.rW⟩
  · obtain ⟨h0, h1 | ⟨g, cap, cur, h1, h2, h3, h4⟩⟩ := ownsRow_bl h.own (Bl.refl wx).drew
    · exact ⟨h0, Or.inl h1⟩
    · have := h.rW
      exact ⟨h0, Or.inr ⟨g, cap, cur, h1, h2, by rw [hg.block g (lt_heap h3) (fun e => by have e2 : g = r := Option.some.inj e; omega)]; exact h3, h4⟩⟩
  · rw [hg.block tb (lt_heap h3') (fun e => tags h3' hD (by decide) (Option.some.inj e))]; exact h3'
theorem TE.end {W wx : World} {r : Nat} {T : Int} {F : HU.St} {k tb : Nat} {u : Value} (h : TE W r T F k tb u 7 wx) (ok : HU.Ok F T) : (∃ a c, u = .slice a (HU.told F k).length c ∧ RS lyM wx a (HU.told F k)) ∧ RH wx r T (HU.took F k) ∧ Of1 r W wx := by
  have e : tkN F k 7 = HU.took F k := by
    funext j
    unfold tkN HU.took
    by_cases hin : HU.inT F k j = true
    · obtain ⟨s, hs, e⟩ := (HU.inT_iff F k j).1 hin
      have := ((HU.rep_tl ok).mem s).1 (List.mem_of_mem_take hs)
      rw [if_pos ⟨hin, by omega⟩, if_pos hin]
    · rw [if_neg (fun h => hin h.1), if_neg hin]
  exact ⟨owns_rs lyM h.own, by rw [← e]; exact h.h, h.of⟩

/-- a slice's length -/
def lenN : Value → Nat
  | .slice _ n _ => n
  | _ => 0
end Go.Proofs.Ytpgagddofifikaa
