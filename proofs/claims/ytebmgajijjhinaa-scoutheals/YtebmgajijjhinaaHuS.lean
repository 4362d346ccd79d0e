/- slices.SortFunc at a row of rumours of one's own. -/
import Derived.Test.YtebmgajijjhinaaHuT
import Derived.Test.YtebmgajijjhinaaShU
import Derived.Lib.OwnBridge
import Derived.Shelf.SlSortCmp.NoneTotal
namespace Go.Proofs.Ytebmgajijjhinaa
open Go.RowKit Go.Maps Go.Sort Go.Shelf
set_option linter.unusedVariables false
set_option linter.unusedSimpArgs false

/-- a row of things as the sort's library has it -/
theorem flat_lay {α : Type} [Inhabited α] (E : Lay α) (L : List α) : flatK E.f E.k L.toArray = (flG E L).toArray := by
  have hl := flG_len E L
  have hk := E.pos
  apply Array.ext (by simp [hl])
  intro t h1 h2
  have ht : t < L.length * E.k := by simpa using h1
  have hq : t / E.k < L.length := by rw [Nat.div_lt_iff_lt_mul hk]; exact ht
  obtain ⟨a, z, e1, e2⟩ := flG_at E L (i := t / E.k) (d := L[t / E.k]) (List.getElem?_eq_getElem hq)
  have g1 := get_flatK E.f E.k L.toArray t (by simpa using ht)
  rw [getElem!_pos (flatK E.f E.k L.toArray) t h1] at g1
  rw [g1]
  have hD : L.toArray[t / E.k]! = L[t / E.k] := by rw [getElem!_pos _ _ (by simpa using hq)]; simp
  rw [hD]
  have hlen := E.len L[t / E.k]
  have hr : t % E.k < (E.f L[t / E.k]).length := by rw [hlen]; exact Nat.mod_lt _ hk
  rw [getElem!_pos (E.f L[t / E.k]) (t % E.k) hr]
  have hdm : t / E.k * E.k + t % E.k = t := by rw [Nat.mul_comm]; exact Nat.div_add_mod t E.k
  have e3 : (flG E L)[t]? = some ((E.f L[t / E.k])[t % E.k]) := by
    rw [e1, List.getElem?_append_right (by omega), e2, List.getElem?_append_left (by omega), show t - t / E.k * E.k = t % E.k by omega, List.getElem?_eq_getElem hr]
  have h2' : t < (flG E L).length := by simpa using h2
  rw [List.getElem?_eq_getElem h2'] at e3
  simpa using (Option.some.inj e3).symm
theorem holds_lay {α : Type} [Inhabited α] (E : Lay α) {W : World} {g : Nat} {cur : Array Value} {e : TypeId} (L : List α) (hb : W.heap[g]? = some (.cells cur e (0, 0))) (ht : cur.toList.take (L.length * E.k) = flG E L) : HoldsK E.f E.k W g 0 L.toArray := by
  intro j hj
  have hj' : j < L.length * E.k := by simpa using hj
  have hl := flG_len E L
  refine ⟨?_, by simp [World.frozen?, hb]⟩
  rw [Lib.cell_of_heap hb]
  have e1 : (flatK E.f E.k L.toArray)[j]! = (flG E L)[j]'(by omega) := by
    rw [flat_lay, getElem!_pos _ _ (by simp; omega)]; simp
  rw [id, e1]
  have e2 : (cur.toList.take (L.length * E.k))[j]? = cur.toList[j]? := by rw [List.getElem?_take, if_pos hj']
  rw [ht, List.getElem?_eq_getElem (by omega)] at e2
  rw [Nat.zero_add, ← Array.getElem?_toList]
  exact e2.symm
/-- what the sort leaves of a row of one's own -/
theorem sorted_lay {α : Type} [Inhabited α] (E : Lay α) {W : World} {N g cap n : Nat} {T : TypeId} {L : List α} {d' : Array α} {os : Array Obj} (hown : W.ownsRow N T E.k (.slice (some ⟨g, 0, none⟩) L.length cap) L.length (flG E L)) (hd : d'.size = L.length) :
    (sortWorldK E.f E.k W g 0 n d' os).ownsRow N T E.k (.slice (some ⟨g, 0, none⟩) L.length cap) L.length (flG E d'.toList) ∧ W.grownBy (sortWorldK E.f E.k W g 0 n d' os) (some g) := by
  obtain ⟨h0, ⟨h1, _⟩ | ⟨g', cap', cur, h1, h2, h3, h4, h5, h6, h7⟩⟩ := hown
  · cases h1
  obtain ⟨rfl, _, rfl⟩ : g = g' ∧ L.length = L.length ∧ cap = cap' := by simpa using h1
  have hg := lt_heap h3
  have hH := holds_lay E L h3 h7
  have hps : (putRowK E.f E.k (Sort.ahead W n) g 0 d').heap.size = W.heap.size := by simp [putRowK, putRow, mapBlock, Sort.ahead]
  have hH' : HoldsK E.f E.k (sortWorldK E.f E.k W g 0 n d' os) g 0 d' := by
    unfold sortWorldK
    refine holdsK_grow _ _ _ _ _ _ _ (by rw [hps]; exact hg) ?_
    exact holds_putRow id (Sort.ahead W n) g 0 (flatK E.f E.k L.toArray) (flatK E.f E.k d') hH (by simp [hd])
  have hsz : (sortWorldK E.f E.k W g 0 n d' os).heap.size = W.heap.size + os.size := by simp [sortWorldK, putRowK, putRow, mapBlock, Sort.ahead]
  have hblk : (sortWorldK E.f E.k W g 0 n d' os).heap[g]? = some (.cells (putCells id 0 (flatK E.f E.k d') cur) T (0, 0)) := by
    unfold sortWorldK
    show ((putRowK E.f E.k (Sort.ahead W n) g 0 d').heap ++ os)[g]? = _
    rw [Array.getElem?_append_left (by rw [hps]; exact hg)]
    show (W.heap.modify g _)[g]? = _
    rw [Array.getElem?_modify, if_pos rfl, h3]; rfl
  have hsize : (putCells id 0 (flatK E.f E.k d') cur).size = cap * E.k := by unfold putCells; simpa using h6
  refine ⟨⟨(flG_len E d'.toList).trans (by rw [show d'.toList.length = L.length from hd]), Or.inr ⟨g, cap, _, rfl, h2, hblk, h4, h5, hsize, ?_⟩⟩, ?_⟩
  · have hl : (flG E d'.toList).length = L.length * E.k := (flG_len E d'.toList).trans (by rw [show d'.toList.length = L.length from hd])
    apply List.ext_getElem?
    intro j
    rw [List.getElem?_take]
    by_cases hj : j < L.length * E.k
    · rw [if_pos hj, List.getElem?_eq_getElem (by omega : j < (flG E d'.toList).length)]
      have h8 := (hH' j (by simp [hd]; omega)).1
      rw [Lib.cell_of_heap hblk, Nat.zero_add, ← Array.getElem?_toList] at h8
      rw [h8, id]
      have e1 : (flatK E.f E.k d')[j]! = (flG E d'.toList)[j]'(by omega) := by
        have := flat_lay E d'.toList
        rw [Array.toArray_toList] at this
        rw [this, getElem!_pos _ _ (by simp; omega)]; simp
      rw [e1]
    · rw [if_neg hj, List.getElem?_eq_none (by omega)]
  · refine ⟨rfl, rfl, rfl, by omega, fun k hk hne => ?_⟩
    unfold sortWorldK
    show ((putRowK E.f E.k (Sort.ahead W n) g 0 d').heap ++ os)[k]? = _
    rw [Array.getElem?_append_left (by rw [hps]; exact hk)]
    show (W.heap.modify g _)[k]? = _
    rw [Array.getElem?_modify, if_neg (fun e => hne (by rw [e]))]
theorem cmpI_lt (a b : Int) : decide (cmpI a b < 0) = decide (a < b) := by
  unfold cmpI
  rw [decide_eq_decide]
  split
  · rename_i h; exact ⟨fun _ => h, fun _ => by decide⟩
  · rename_i h; split
    · exact ⟨fun h => absurd h (by decide), fun h2 => absurd h2 h⟩
    · exact ⟨fun h => absurd h (by decide), fun h2 => absurd h2 h⟩
def cmpN (a b : HU.Ru) : Int := cmpI a.1.1 b.1.1
theorem ltOf_N (a b : HU.Ru) : ltOf cmpN a b = HU.ltN a b := cmpI_lt _ _
theorem ltOf_T (a b : HU.Ru) : ltOf cmpT a b = HU.ltT a b := by
  unfold ltOf cmpT HU.ltT HU.Fst
  rw [decide_eq_decide]
  unfold cmpI
  split <;> (repeat split at * <;> try omega)
theorem swoN : SWO (ltOf cmpN) where
  irrefl x := by rw [ltOf_N]; unfold HU.ltN; simp
  trans x y z h1 h2 := by
    rw [ltOf_N] at *
    unfold HU.ltN at *
    rw [decide_eq_true_eq] at *; omega
  ntrans x y z h1 h2 := by
    rw [ltOf_N] at *
    unfold HU.ltN at *
    rw [decide_eq_false_iff_not] at *; omega
theorem swoT : SWO (ltOf cmpT) where
  irrefl x := by rw [ltOf_T]; unfold HU.ltT HU.Fst; simp
  trans x y z h1 h2 := by
    rw [ltOf_T] at *
    unfold HU.ltT HU.Fst at *
    rw [decide_eq_true_eq] at *; omega
  ntrans x y z h1 h2 := by
    rw [ltOf_T] at *
    unfold HU.ltT HU.Fst at *
    rw [decide_eq_false_iff_not] at *; omega
theorem sorted_pw {α : Type} [Inhabited α] {lt : α → α → Bool} {d : Array α} {n : Nat} (hn : d.size = n) (h : SortedIn lt 0 n d) : d.toList.Pairwise (fun a b => lt b a = false) := by
  rw [List.pairwise_iff_getElem]
  intro i j hi hj hij
  have := h i j (Nat.zero_le _) hij (by rw [← hn]; simpa using hj)
  rw [getElem!_pos d j (by simpa using hj), getElem!_pos d i (by simpa using hi)] at this
  simpa using this
theorem sort_ru (f : FuncId) (cf : HU.Ru → HU.Ru → Int) (hO : SWO (ltOf cf)) (eg : ∀ args w, (callFunc f args).run Try.prog w = .ok (.enter f args) w) (hc : ∀ x y W, Calls Try.prog f #[.agg (ruV x), .agg (ruV y)] W fun e w' => e = .returned (.int .i64 (cf x y)) ∧ Gn W w')
    {N n : Nat} {v : Value} {l : List HU.Ru} {W : World} (hn : n = l.length) (hown : W.ownsRow N 115 4 v n (flG lyR l)) (hl : l.length ≤ 100000) :
    Calls Try.prog 57 #[v, .func (.func f) #[] #[]] W fun e w' => e = .returned (.tuple #[]) ∧ ∃ l' : List HU.Ru, l'.Perm l ∧ l'.Pairwise (fun a b => ltOf cf b a = false) ∧ w'.ownsRow N 115 4 v n (flG lyR l') ∧ W.grownBy w' v.ownBlock := by
  subst hn
  have hown0 := hown
  obtain ⟨h0, ⟨h1, hz⟩ | ⟨g, cap, cur, h1, h2, h3, h4, h5, h6, h7⟩⟩ := hown
  · subst h1
    have hcon := AnyF.slices_SortFunc_none Try.sortR none 0 (.func (.func f) #[] #[]) W
    have hcon' : Calls Try.prog 57 #[.slice none 0 0, .func (.func f) #[] #[]] W _ := hcon
    refine hcon'.mono ?_
    rintro e w' ⟨rfl, rfl⟩
    have hl0 : l = [] := List.length_eq_zero_iff.1 hz
    subst hl0
    exact ⟨rfl, [], List.Perm.refl _, List.Pairwise.nil, hown0, ⟨rfl, rfl, rfl, Nat.le_refl _, fun _ _ _ => rfl⟩⟩
  · subst h1
    have hg := lt_heap h3
    have hcm : CmpLays Try.prog f #[] lyR.f 4 cf g 0 l.toArray.size W := fun m os dk hs x y => hc x y _
    have hcon := AnyQ.slices_SortFunc Try.sortR 4 Try.isAgg115 Try.sizeOf115 lyR.f lyR.len lyR.one cf hO f #[] g 0 cap l.toArray W eg hcm (holds_lay lyR l h3 h7) hg (by simp; omega)
    have hcon' : Calls Try.prog 57 #[.slice (some ⟨g, 0, none⟩) l.length cap, .func (.func f) #[] #[]] W _ := hcon
    refine hcon'.mono ?_
    rintro e w' ⟨rfl, d', n, os, hp, hs, rfl⟩
    obtain ⟨p1, _, p3⟩ := hp
    have e1 : d'.extract 0 l.toArray.size = d' := by rw [← p1]; simp
    have e2 : l.toArray.extract 0 l.toArray.size = l.toArray := by simp
    rw [e1, e2] at p3
    have hd : d'.size = l.length := by simpa using p1
    obtain ⟨q1, q2⟩ := sorted_lay lyR (n := n) (os := os) hown0 hd
    exact ⟨rfl, d'.toList, by simpa using p3, sorted_pw p1 hs, q1, q2⟩
end Go.Proofs.Ytebmgajijjhinaa
