/- HedgeGrows: a record more of a new key counts once more in each range that its key is in, and changes no other one. -/
import Derived.Test.YtfbjakhanjbaeaaDoorHgU
import Derived.Test.YtfbjakhanjbaeaaDoorHqa
import Derived.Test.YtfbjakhanjbaeaaDoorHq9
namespace Go.Proofs.YtfbjakhanjbaeaaDoor
open Go.RowKit Go.Maps Go.Sort Go.Shelf Go.Lib
set_option linter.unusedVariables false
set_option linter.unusedSimpArgs false
attribute [local go_sem ↓] zRgW

namespace HG
theorem srt_nd (l : List R) : (srt l).Nodup := by
  refine List.Pairwise.imp ?_ (srt_rise l)
  intro a b h e; exact lt_ne h (by rw [e])
theorem srt_new (L : List R) (x : R) (h : ∀ y ∈ L, y.k ≠ x.k) : (srt (L ++ [x])).length = (srt L).length + 1 := by
  have hp : (srt (L ++ [x])).Perm (x :: srt L) := by
    rw [List.perm_ext_iff_of_nodup (srt_nd _) (List.nodup_cons.2 ⟨fun hm => h x (srt_sub _ _ hm) rfl, srt_nd _⟩)]
    intro z
    rw [srt_mem, List.mem_cons, srt_mem, List.find?_append]
    cases hf : L.find? (fun u => decide (u.k = z.k)) with
    | some y =>
      have hy : y.k = z.k := by simpa using List.find?_some hf
      have hm := List.mem_of_find?_eq_some hf
      constructor
      · intro e; exact Or.inr (by simpa using e)
      · rintro (e | e)
        · subst e; exact absurd hy (h y hm)
        · simpa using e
    | none =>
      constructor
      · intro e
        have e2 : [x].find? (fun u => decide (u.k = z.k)) = some z := by simpa using e
        exact Or.inl (by simpa using (List.mem_of_find?_eq_some e2))
      · rintro (e | e)
        · subst e; simp
        · cases e
  have := hp.length_eq
  simpa using this
theorem items_in (r : G) (l : List R) (x : R) (hk : ∀ y ∈ l, y.k ≠ x.k) (h : inn r x.k = true) : (items r (l ++ [x])).length = (items r l).length + 1 := by
  unfold items
  rw [List.filter_append, show [x].filter (fun u => inn r u.k) = [x] by simp [h]]
  exact srt_new _ x fun y hy => hk y (List.mem_filter.1 hy).1
theorem items_out (r : G) (l : List R) (x : R) (h : inn r x.k = false) : items r (l ++ [x]) = items r l := by
  unfold items
  rw [List.filter_append, show [x].filter (fun u => inn r u.k) = [] by simp [h], List.append_nil]
theorem inn_rng (d p : Int) (l : List R) (hl : l.length ≤ 1000) (k : List UInt8) : inn (rng d p l) k = inn (g0 d p) k := by
  have h := rng_num d p l hl
  unfold inn good
  rw [decide_eq_true h]
  rfl
theorem rng_items (d p : Int) (l m : List R) (hl : l.length ≤ 1000) : items (rng d p l) m = items (g0 d p) m := items_eq (rng d p l) m (rng_num d p l hl)
/-- what the law asks, on lists -/
theorem grows (d p : Int) (l : List R) (x : R) (hl : l.length ≤ 80) (hk : ∀ y ∈ l, y.k ≠ x.k) :
    (inn (rng d p l) x.k = false → rng d p l = rng d p (l ++ [x])) ∧ (inn (rng d p l) x.k = true → (rng d p (l ++ [x])).n = (rng d p l).n + 1 ∧ (items (rng d p (l ++ [x])) (l ++ [x])).length = (items (rng d p l) l).length + 1) := by
  rw [inn_rng d p l (by omega), rng_items d p l l (by omega), rng_items d p (l ++ [x]) (l ++ [x]) (by rw [List.length_append]; simp; omega)]
  constructor
  · intro h
    have := items_out (g0 d p) l x h
    unfold rng; simp only [this]
  · intro h
    have := items_in (g0 d p) l x hk h
    refine ⟨?_, this⟩
    show (((items (g0 d p) (l ++ [x])).length : Nat) : Int) = ((items (g0 d p) l).length : Nat) + 1
    omega
end HG
theorem gERg' : Tryd.prog.eqGuardType Tryd.prog.depth 26 = false := by kernel_rfl
theorem wl_eqlG {P : Program} {ops : Array Oper} {rest : List Oper} {o : Oper} {a : Act} {w : World} {Q : Exit → Act → World → Prop} (hw : Region.wanted o (yielded ops a.tmps) = true) (t : TypeId) (x y : Operand) (q : TypeId) (ho : o.op = .binOp .eql t x y q) (xs ys : Array Value) (hx : a.eval x = .agg xs) (hy : a.eval y = .agg ys) (hm : P.eqGuardType P.depth t = false) (b : Bool) (he : ∀ w, (Op.equalIn 10000 t (.agg xs) (.agg ys)).run P w = .ok b w)
    (h : wpList P ops Q rest (a.put o.dst (.bool b)) w) : wpList P ops Q (o :: rest) a w :=
  wpList_step fun _ hK => by
    rw [if_pos hw]
    have e : (execOp a.eval o).run P w = .ok (.value (.bool b)) w := by
      unfold execOp; simp only [ho, hx, hy, Sem.run_bind, run_eqGuard_agg (hm := hm), run_eql_struct, he, Result.andThen_ok, Sem.run_pure]
    unfold Oper.wp
    rw [e]
    exact hK _ _ h
theorem own_emptyB {B U : World} (h : Bl B U) : (U.alloc (.cells #[] 48)).ownsRow B.heap.size 48 65 (.slice (some ⟨U.heap.size, 0, none⟩) 0 0) 0 [] :=
  ⟨by simp, Or.inr ⟨U.heap.size, 0, #[], rfl, Below.size h, heap_alloc_new U _, Nat.le_refl _, by decide, by simp, by simp⟩⟩
theorem blk_new {B U : World} (h : Bl B U) (C : Array Value) (T : TypeId) : (U.alloc (.cells C T)).heap[U.heap.size]? = some (.cells C T (0, 0)) := heap_alloc_new U _
theorem oeA (V : World) : (V.alloc (.cells #[] 48)).drew.ownsRow V.heap.size 48 65 (.slice (some ⟨V.heap.size, 0, none⟩) 0 0) 0 [] := own_emptyB (Bl.refl V)
theorem oeA4 (V : World) (F : Array Value) : ((V.alloc (.cells #[] 48)).alloc (.cells F 48)).drew.ownsRow V.heap.size 48 65 (.slice (some ⟨V.heap.size, 0, none⟩) 0 0) 0 [] := ownsRow_bl (own_emptyB (Bl.refl V)) (((Bl.refl _).alloc (.cells F 48)).drew)
theorem oeB (V : World) (F : Array Value) : ((V.alloc (.cells F 48)).alloc (.cells #[] 48)).drew.ownsRow V.heap.size 48 65 (.slice (some ⟨V.heap.size + 1, 0, none⟩) 0 0) 0 [] := by
  have h := own_emptyB ((Bl.refl V).alloc (.cells F 48))
  rw [World.size_alloc] at h; exact h
theorem bsA4 (V : World) (F : Array Value) : ((V.alloc (.cells #[] 48)).alloc (.cells F 48)).drew.heap[(V.alloc (.cells #[] 48)).drew.heap.size]? = some (.cells F 48 (0, 0)) := heap_alloc_new (V.alloc (.cells #[] 48)) (.cells F 48)
theorem bsB (V : World) (F : Array Value) : ((V.alloc (.cells F 48)).alloc (.cells #[] 48)).drew.heap[V.heap.size]? = some (.cells F 48 (0, 0)) := Bl.heap ((Bl.refl _).alloc (.cells #[] 48)) (heap_alloc_new V (.cells F 48))
/-- a step of a list of operations is a step where the order is drawn -/
theorem so_of_wl {P : Program} {ops : Array Oper} {o : Oper} {a : Act} {w : World} {K : Act → World → Prop} {Q : Exit → Act → World → Prop} {E : Prop} (hw : Region.wanted o (yielded ops a.tmps) = true) (h : ∀ Q', (∀ a w, K a w → wpList P ops Q' [] a w) → wpList P ops Q' [o] a w) : if Region.wanted o (yielded ops a.tmps) = true then Oper.wp P o a w K Q else E := by
  rw [if_pos hw]
  obtain ⟨Q', hQ⟩ : ∃ Q' : Exit → Act → World → Prop, Q' = fun e a w => match e with | .normal => K a w | .panic c => Q (.panic c) a w | _ => False := ⟨_, rfl⟩
  have h1 : ∀ a w, wpList P ops Q' [] a w → K a w := fun a w h => by subst hQ; exact h
  have h2 : ∀ c a w, Q' (.panic c) a w → Q (.panic c) a w := fun c a w h => by subst hQ; exact h
  have h3 : ¬ LetsOut Q' := fun ⟨a, w, h⟩ => by subst hQ; exact h
  have := h Q' fun a w h => by subst hQ; exact h
  unfold wpList at this
  rw [if_pos hw] at this
  rcases this with h | ⟨_, h⟩
  · unfold Oper.wp at h ⊢
    generalize (execOp a.eval o).run P w = R at h ⊢
    cases R with
    | ok v w' =>
      cases v with
      | value v => exact h1 _ _ h
      | skip => exact h1 _ _ h
      | defer d => exact h1 _ _ h
      | enter f args =>
        refine Calls.mono h fun e w'' he => ?_
        cases e with
        | returned v => exact h1 _ _ he
        | panicked c => exact h2 _ _ _ he
        | outgrown => exact absurd he h3
      | row rw' args => exact Rows.mono h fun v w'' he => h1 _ _ he
      | _ => exact h
    | halt s w' =>
      cases s with
      | panic v => exact h2 _ _ _ h
      | _ => exact h
  · exact absurd h h3
set_option maxHeartbeats 2000000 in
set_option maxRecDepth 8000 in
theorem gr_long (l : List HG.R) (v : Value) (x : HG.R) (r : HG.G) (w : World) (hG : GW w) (hv : SL w v l) (hl : 80 < l.length) :
    Calls Tryd.prog 7 #[v, .agg (fR x).toArray, .agg (fG r).toArray] w fun e w' => e = .returned (.bool true) ∧ Bl w w' := by
  have hv0 := hv
  obtain ⟨a, c, rfl, hrs, _⟩ := hv
  obtain ⟨W2, hW2⟩ : ∃ W2, W2 = (w.alloc (.cells (fR x).toArray 48)).alloc (.cells (fG r).toArray 26) := ⟨_, rfl⟩
  have hB2 : Bl w W2 := by rw [hW2]; exact ((Bl.refl w).alloc _).alloc _
  have h0 : W2.heap[w.heap.size]? = some (.cells (fR x).toArray 48 (0, 0)) := by
    rw [hW2, Below.heap_alloc _ _ _ (by simp)]; exact heap_alloc_new _ _
  have h1 : W2.heap[w.heap.size + 1]? = some (.cells (fG r).toArray 26 (0, 0)) := by
    rw [hW2]
    have := heap_alloc_new (w.alloc (.cells (fR x).toArray 48)) (.cells (fG r).toArray 26)
    rwa [World.size_alloc] at this
  have HBX : Hid (∀ U, Bl W2 U → U.rangeAt w.heap.size 0 (fR x) ∧ U.rangeAt w.heap.size 0 (x.k.map vb) ∧ U.cell? ⟨w.heap.size + 1, 0, none⟩ = some (.int .i64 r.d) ∧ U.cell? ⟨w.heap.size + 1, 1, none⟩ = some (.int .i64 r.p)) := fun U h => by
    have k0 := Bl.heap h h0
    have k1 := Bl.heap h h1
    exact ⟨range_of k0, range_part k0 [] (x.k.map vb) _ 0 rfl rfl, cell_of_row _ _ 0 _ _ _ k1, cell_of_row _ _ 1 _ _ _ k1⟩
  have CA := hidI (fun U (h : Bl W2 U) => awake_15 U (hG.below (bl_tr hB2 h) hG.z))
  have HB2 := hidI hB2
  have HW2 := hidI hW2
  have hsz : (fG r).toArray.size = 35 := by simp [fG_len]
  have hsz2 : (fR x).toArray.size = 65 := by simp [fR_len]
  obtain ⟨n, hn⟩ : ∃ n, n = l.length := ⟨_, rfl⟩
  rw [← hn] at hl ⊢
  have hlz : (n : Int) > 80 := by omega
  clear hG hv0 hrs hB2 h0 h1 hW2 hn
  generalize fG r = FG at *
  generalize fR x = FR at *
  go_enter Tryd.func7, Tryd.ntmps7
  go_wp2_with (first
    | go_skip
    | (go_at_call 8; rw [← HW2.out]; refine (CA.out _ (Bl.refl _)).mono ?_; clear CA; rintro e w1 ⟨rfl, b1⟩; have HC1 := hidI b1; clear b1))
  go_ret
  exact ⟨rfl, HB2.out.step HC1.out⟩
set_option maxHeartbeats 8000000 in
set_option maxRecDepth 8000 in
theorem gr_main (l : List HG.R) (v : Value) (x : HG.R) (r : HG.G) (w : World) (hG : GW w) (hv : SL w v l) (hl : l.length ≤ 80) :
    Calls Tryd.prog 7 #[v, .agg (fR x).toArray, .agg (fG r).toArray] w fun e w' => e = .returned (.bool true) ∧ Bl w w' := by
  have hv0 := hv
  obtain ⟨a, c, rfl, hrs, _⟩ := hv
  obtain ⟨W2, hW2⟩ : ∃ W2, W2 = (w.alloc (.cells (fR x).toArray 48)).alloc (.cells (fG r).toArray 26) := ⟨_, rfl⟩
  have hB2 : Bl w W2 := by rw [hW2]; exact ((Bl.refl w).alloc _).alloc _
  have h0 : W2.heap[w.heap.size]? = some (.cells (fR x).toArray 48 (0, 0)) := by
    rw [hW2, Below.heap_alloc _ _ _ (by simp)]; exact heap_alloc_new _ _
  have h1 : W2.heap[w.heap.size + 1]? = some (.cells (fG r).toArray 26 (0, 0)) := by
    rw [hW2]
    have := heap_alloc_new (w.alloc (.cells (fR x).toArray 48)) (.cells (fG r).toArray 26)
    rwa [World.size_alloc] at this
  have HBX : Hid (∀ U, Bl W2 U → U.rangeAt w.heap.size 0 (fR x) ∧ U.rangeAt w.heap.size 0 (x.k.map vb) ∧ U.cell? ⟨w.heap.size + 1, 0, none⟩ = some (.int .i64 r.d) ∧ U.cell? ⟨w.heap.size + 1, 1, none⟩ = some (.int .i64 r.p)) := fun U h => by
    have k0 := Bl.heap h h0
    have k1 := Bl.heap h h1
    exact ⟨range_of k0, range_part k0 [] (x.k.map vb) _ 0 rfl rfl, cell_of_row _ _ 0 _ _ _ k1, cell_of_row _ _ 1 _ _ _ k1⟩
  have CA := hidI (fun U (h : Bl W2 U) => awake_15 U (hG.below (bl_tr hB2 h) hG.z))
  have HB2 := hidI hB2
  have HW2 := hidI hW2
  have hsz : (fG r).toArray.size = 35 := by simp [fG_len]
  have hsz2 : (fR x).toArray.size = 65 := by simp [fR_len]
  obtain ⟨n, hn⟩ : ∃ n, n = l.length := ⟨_, rfl⟩
  have hnew0 : ∀ y, y ∈ l.take 0 → y.k ≠ x.k := fun y hy => by simp at hy
  obtain ⟨XA, hXA⟩ : ∃ XA, XA = fG (HG.ofG r.d r.p l) := ⟨_, rfl⟩
  obtain ⟨XB, hXB⟩ : ∃ XB, XB = fG (HG.ofG r.d r.p (l ++ [x])) := ⟨_, rfl⟩
  obtain ⟨er, her⟩ : ∃ er, er = HG.ofE r.d r.p := ⟨_, rfl⟩
  have hl2 : (l ++ [x]).length ≤ 1000 := by rw [List.length_append]; simp; omega
  have COa : Hid (∀ U, Bl W2 U → Calls Tryd.prog 9 #[.int .i64 r.d, .int .i64 r.p, .slice a l.length c] U fun e w' => e = .returned (.tuple #[.agg XA.toArray, .int .i64 er]) ∧ Bl U w') := fun U h => by
    rw [hXA, her]; exact Of_x r.d r.p l _ U (hG.below (bl_tr hB2 h) hG.z) (hv0.bl (bl_tr hB2 h)) (by omega)
  have COb : Hid (∀ U v, SL U v (l ++ [x]) → Bl W2 U → Calls Tryd.prog 9 #[.int .i64 r.d, .int .i64 r.p, v] U fun e w' => e = .returned (.tuple #[.agg XB.toArray, .int .i64 er]) ∧ Bl U w') := fun U v hs h => by
    rw [hXB, her]; exact Of_x r.d r.p (l ++ [x]) v U (hG.below (bl_tr hB2 h) hG.z) hs hl2
  obtain ⟨q, hq⟩ : ∃ q, q = HG.inn (HG.ofG r.d r.p l) x.k := ⟨_, rfl⟩
  have CIn : Hid (∀ U, Calls Tryd.prog 21 #[.agg XA.toArray, .agg (x.k.map vb).toArray] U fun e w' => e = .returned (.bool q) ∧ Gn U w') := fun U => by rw [hXA, hq]; exact In_gn (HG.ofG r.d r.p l) x.k x.hk U
  obtain ⟨ma, hma⟩ : ∃ m, m = (HG.items (HG.ofG r.d r.p l) l).length := ⟨_, rfl⟩
  obtain ⟨mb, hmb⟩ : ∃ m, m = (HG.items (HG.ofG r.d r.p (l ++ [x])) (l ++ [x])).length := ⟨_, rfl⟩
  have CTa : Hid (∀ U, Bl W2 U → Calls Tryd.prog 15 #[.agg XA.toArray, .slice a l.length c] U fun e w' => ∃ a9 c9, e = .returned (.slice a9 ma c9) ∧ Bl U w') := fun U h => by
    rw [hXA]
    refine Calls.mono (Items_x (HG.ofG r.d r.p l) l _ U (hv0.bl (bl_tr hB2 h)) (by omega)) ?_
    rintro e w' ⟨v', rfl, o, k⟩
    obtain ⟨a9, c9, rfl, _⟩ := owns_rs lyR (ks := HG.items (HG.ofG r.d r.p l) l) o
    exact ⟨a9, c9, by rw [hma], k⟩
  have CTb : Hid (∀ U v, SL U v (l ++ [x]) → Calls Tryd.prog 15 #[.agg XB.toArray, v] U fun e w' => ∃ a9 c9, e = .returned (.slice a9 mb c9) ∧ Bl U w') := fun U v hs => by
    rw [hXB]
    refine Calls.mono (Items_x (HG.ofG r.d r.p (l ++ [x])) (l ++ [x]) v U hs hl2) ?_
    rintro e w' ⟨v', rfl, o, k⟩
    obtain ⟨a9, c9, rfl, _⟩ := owns_rs lyR (ks := HG.items (HG.ofG r.d r.p (l ++ [x])) (l ++ [x])) o
    exact ⟨a9, c9, by rw [hmb], k⟩
  obtain ⟨An, hAn⟩ : ∃ m, m = (HG.ofG r.d r.p l).n := ⟨_, rfl⟩
  obtain ⟨Bn, hBn⟩ : ∃ m, m = (HG.ofG r.d r.p (l ++ [x])).n := ⟨_, rfl⟩
  obtain ⟨eg, heg⟩ : ∃ m, m = eqG (HG.ofG r.d r.p l) (HG.ofG r.d r.p (l ++ [x])) := ⟨_, rfl⟩
  have HEG : Hid (∀ U, (Op.equalIn 10000 26 (.agg XA.toArray) (.agg XB.toArray)).run Tryd.prog U = .ok eg U) := fun U => by rw [hXA, hXB, heg]; exact eqRng _ _ U
  have HXA2 : Hid (XA[2]? = some (.int .i64 An)) := by show _ = _; rw [hXA, hAn]; rfl
  have HXB2 : Hid (XB[2]? = some (.int .i64 Bn)) := by show _ = _; rw [hXB, hBn]; rfl
  have HPL : Hid (er ≠ 0 ∨ (er = 0 ∧ 0 ≤ An ∧ An ≤ 1000 ∧ ma ≤ 1000 ∧ ((∀ y ∈ l, y.k ≠ x.k) → (q = false → eg = true) ∧ (q = true → Bn = An + 1 ∧ mb = ma + 1)))) := by
    show _ ∨ _
    cases hp : HG.pl r.d r.p with
    | false => left; rw [her]; unfold HG.ofE; rw [hp]; decide
    | true =>
      right
      have e1 : ∀ L, HG.ofG r.d r.p L = HG.rng r.d r.p L := fun L => by unfold HG.ofG; rw [hp]; rfl
      simp only [e1] at hq hma hmb hAn hBn heg
      have h2 := HG.items_len (HG.rng r.d r.p l) l
      have h3 := HG.items_len (HG.g0 r.d r.p) l
      have h4 : An = ((HG.items (HG.g0 r.d r.p) l).length : Nat) := hAn
      refine ⟨by rw [her]; unfold HG.ofE; rw [hp]; rfl, by omega, by omega, by omega, fun hk => ?_⟩
      have hg := HG.grows r.d r.p l x (by omega) hk
      rw [← hq, ← hAn, ← hBn, ← hma, ← hmb] at hg
      exact ⟨fun h => by rw [heg]; exact (eqG_iff _ _).2 (hg.1 h), hg.2⟩
  have HLX : Hid (XA.length = 35 ∧ ∀ u ∈ XA, u.oneCell' = true) := by rw [hXA]; exact ⟨fG_len _, fG_one _⟩
  have HLY : Hid (XB.length = 35 ∧ ∀ u ∈ XB, u.oneCell' = true) := by rw [hXB]; exact ⟨fG_len _, fG_one _⟩
  have IXA : Hid ((Tryd.prog.info? 26).map (·.size) = some XA.length) := by show _ = _; rw [HLX.out.1]; exact infoRg
  have IXB : Hid ((Tryd.prog.info? 26).map (·.size) = some XB.length) := by show _ = _; rw [HLY.out.1]; exact infoRg
  have HZ : Hid (∀ U : World, (U.alloc (.cells zRg.toArray 26)).heap[U.heap.size]? = some (.cells zRg.toArray 26 (0, 0))) := fun U => heap_alloc_new _ _
  have HA : Hid (∀ (U V : World) o, Of1 U.heap.size (U.alloc o) V → Bl U V) := fun U V o h => h.bl ((Bl.refl U).alloc _) (Nat.le_refl _)
  have HZS := hidI zRg_sz
  have HEK : Hid (∀ (y : HG.R) U, (Op.equalIn 10000 24 (.agg (y.k.map vb).toArray) (.agg (x.k.map vb).toArray)).run Tryd.prog U = .ok (decide (y.k = x.k)) U) := fun y U => eqDg y.k x.k y.hk x.hk U
  have HIK : Hid (∀ y : HG.R, (Tryd.prog.info? 24).map (·.size) = some (y.k.map vb).length) := fun y => by rw [List.length_map, y.hk]; exact info27
  have IRX := hidI (one_infoR x)
  have HL2 := hidI (len1 (hidI (fR_len x)))
  have HFX : Hid (flG lyR [x] = fR x) := by show _ = _; simp [flG]; rfl
  obtain ⟨fs, huR0⟩ := undRc
  have huR := hidI huR0
  obtain ⟨gs, huG0⟩ := undRg
  have huG := hidI huG0
  have HRS := hidI hrs
  have HN := hidI hn
  rw [← hn] at hl COa CTa
  rw [← hn]
  have hlz : ¬ (n : Int) > 80 := by omega
  clear hG hv0 hrs hB2 h0 h1 hW2 hn huR0 huG0 hXA hXB her hq hma hmb hAn hBn heg hl2
  generalize fG r = FG at *
  generalize r.d = d at *
  generalize r.p = p at *
  go_enter Tryd.func7, Tryd.ntmps7
  go_wp2_with (first
    | go_skip
    | (go_at_call 8; rw [← HW2.out]; refine (CA.out _ (Bl.refl _)).mono ?_; clear CA; rintro e w1 ⟨rfl, b1⟩; have HC1 := hidI b1; clear b1))
  go_loopw [7] (fun u wr => ∃ i : Nat, i ≤ n ∧ u = .int .i64 i ∧ (∀ y, y ∈ l.take i → y.k ≠ x.k) ∧ Bl W2 wr) (fun u _ => n - (intOf u).toNat)
  case atStart => exact ⟨0, Nat.zero_le _, rfl, hnew0, HC1.out⟩
  case round =>
    as_aux_lemma =>
    obtain ⟨i, hin, rfl, hnew, hb⟩ := hrel
    have HB := hidI hb
    clear hb hnew0 HC1
    by_cases hlt : i < n
    · have hiz : (i : Int) < (n : Int) := by omega
      obtain ⟨y, hy⟩ : ∃ y, l[i]? = some y := ⟨l[i]'(by have := HN.out; omega), List.getElem?_eq_getElem (by have := HN.out; omega)⟩
      obtain ⟨b, off, rfl, hbl, ry⟩ := (HRS.out.bl (bl_tr HB2.out HB.out)) i y hy
      have ry2 : wr.rangeAt b (off + i * 65) (y.k.map vb) := fun j v hv => ry j v (by
        show (fR y)[j]? = some v
        unfold fR
        rw [List.getElem?_append_left (List.getElem?_eq_some_iff.1 hv).1]; exact hv)
      have HQ : Hid (∀ U, Bl wr U → U.rangeAt b (off + i * 65) (y.k.map vb) ∧ U.rangeAt w.heap.size 0 (x.k.map vb)) := fun U h => ⟨Bl.range h hbl ry2, (HBX.out U (bl_tr HB.out h)).2.1⟩
      have HE := hidI (HEK.out y)
      have IY := hidI (HIK.out y)
      have IX := hidI (HIK.out x)
      have HNEW : Hid (y.k ≠ x.k → ∀ z, z ∈ l.take (i + 1) → z.k ≠ x.k) := fun hne z hz => by
        rw [List.take_add_one, hy] at hz
        rcases List.mem_append.1 hz with h | h
        · exact hnew z h
        · have : z = y := by simpa using h
          rw [this]; exact hne
      clear hnew hy ry ry2 hbl HEK HIK COa COb CIn CTa CTb HPL
      by_cases hyx : y.k = x.k
      · rw [decide_eq_true hyx] at HE
        clear HNEW hyx
        generalize y.k.map vb = KY at *
        generalize x.k.map vb = KX at *
        generalize fR x = FX at *
        go_upto_region 8 with (first | go_skip)
        refine wp_region_noPanic ?_
        refine wp_region_held_drew (S := fun U => Bl wr U) (by kernel_rfl) (((Bl.refl wr).drew)) (fun hHeld => ?_)
        refine wpAnyH_take (i := 0) rfl (by kernel_rfl) (by kernel_rfl) (by kernel_rfl) (fun _ _ _ h => h) (yi_move (by kernel_rfl) rfl rfl) (by assumption) ?_
        simp only [Act.put, List.getElem_toArray, List.getElem_cons_succ, List.getElem_cons_zero, List.setIfInBounds_toArray, List.set_cons_zero, List.set_cons_succ, Act.eval, Array.getD_eq_getD_getElem?, List.getElem?_toArray, List.getElem?_cons_succ, List.getElem?_cons_zero, Option.getD_some]
        refine wpAnyH_take (i := 1) rfl (by kernel_rfl) (by kernel_rfl) (by kernel_rfl) (fun _ _ _ h => h) (yi_move (by kernel_rfl) rfl rfl) (by assumption) ?_
        simp only [Act.put, List.getElem_toArray, List.getElem_cons_succ, List.getElem_cons_zero, List.setIfInBounds_toArray, List.set_cons_zero, List.set_cons_succ, Act.eval, Array.getD_eq_getD_getElem?, List.getElem?_toArray, List.getElem?_cons_succ, List.getElem?_cons_zero, Option.getD_some]
        refine wpAnyH_take (i := 2) (v := ?_) rfl (by kernel_rfl) (by kernel_rfl) (by kernel_rfl) (fun _ _ _ h => h) (Or.inl ⟨by kernel_rfl, ?_⟩) (by assumption) ?_
        rotate_left
        · (intro w hSw; (try dsimp only at hSw); go_simp; (try with_reducible rfl))
        simp only [Act.put, List.getElem_toArray, List.getElem_cons_succ, List.getElem_cons_zero, List.setIfInBounds_toArray, List.set_cons_zero, List.set_cons_succ, Act.eval, Array.getD_eq_getD_getElem?, List.getElem?_toArray, List.getElem?_cons_succ, List.getElem?_cons_zero, Option.getD_some]
        refine wpAnyH_take (i := 3) (v := ?_) rfl (by kernel_rfl) (by kernel_rfl) (by kernel_rfl) (fun _ _ _ h => h) (Or.inl ⟨by kernel_rfl, ?_⟩) (by assumption) ?_
        rotate_left
        · (intro w hSw; (try dsimp only at hSw); go_simp; (try with_reducible rfl))
        simp only [Act.put, List.getElem_toArray, List.getElem_cons_succ, List.getElem_cons_zero, List.setIfInBounds_toArray, List.set_cons_zero, List.set_cons_succ, Act.eval, Array.getD_eq_getD_getElem?, List.getElem?_toArray, List.getElem?_cons_succ, List.getElem?_cons_zero, Option.getD_some]
        refine wpAnyH_take (i := 4) (v := .agg (List.toArray KY)) rfl (by kernel_rfl) (by kernel_rfl) (by kernel_rfl) (fun _ _ _ h => h) (yieldsIf_load_mid (by kernel_rfl) _ (.tmp 27) (by kernel_rfl) b (off + i * 65) (by kernel_rfl) KY _ (fun W hW => (HQ.out _ hW).1) und27 rfl IY.out) (by assumption) ?_
        simp only [Act.put, List.getElem_toArray, List.getElem_cons_succ, List.getElem_cons_zero, List.setIfInBounds_toArray, List.set_cons_zero, List.set_cons_succ, Act.eval, Array.getD_eq_getD_getElem?, List.getElem?_toArray, List.getElem?_cons_succ, List.getElem?_cons_zero, Option.getD_some]
        refine wpAnyH_take (i := 5) (v := ?_) rfl (by kernel_rfl) (by kernel_rfl) (by kernel_rfl) (fun _ _ _ h => h) (Or.inl ⟨by kernel_rfl, ?_⟩) (by assumption) ?_
        rotate_left
        · (intro w hSw; (try dsimp only at hSw); go_simp; (try with_reducible rfl))
        simp only [Act.put, List.getElem_toArray, List.getElem_cons_succ, List.getElem_cons_zero, List.setIfInBounds_toArray, List.set_cons_zero, List.set_cons_succ, Act.eval, Array.getD_eq_getD_getElem?, List.getElem?_toArray, List.getElem?_cons_succ, List.getElem?_cons_zero, Option.getD_some]
        refine wpAnyH_take (i := 6) (v := .agg (List.toArray KX)) rfl (by kernel_rfl) (by kernel_rfl) (by kernel_rfl) (fun _ _ _ h => h) (yieldsIf_load_mid (by kernel_rfl) _ (.tmp 29) (by kernel_rfl) w.heap.size 0 (by kernel_rfl) KX _ (fun W hW => (HQ.out _ hW).2) und27 rfl IX.out) (by assumption) ?_
        simp only [Act.put, List.getElem_toArray, List.getElem_cons_succ, List.getElem_cons_zero, List.setIfInBounds_toArray, List.set_cons_zero, List.set_cons_succ, Act.eval, Array.getD_eq_getD_getElem?, List.getElem?_toArray, List.getElem?_cons_succ, List.getElem?_cons_zero, Option.getD_some]
        refine wpAnyH_take (i := 7) (v := ?_) rfl (by kernel_rfl) (by kernel_rfl) (by kernel_rfl) (fun _ _ _ h => h) (Or.inl ⟨by kernel_rfl, ?_⟩) (by assumption) ?_
        rotate_left
        · (intro w hSw; have hX := HE.out w; go_simp; (try with_reducible rfl))
        simp only [Act.put, List.getElem_toArray, List.getElem_cons_succ, List.getElem_cons_zero, List.setIfInBounds_toArray, List.set_cons_zero, List.set_cons_succ, Act.eval, Array.getD_eq_getD_getElem?, List.getElem?_toArray, List.getElem?_cons_succ, List.getElem?_cons_zero, Option.getD_some]
        refine wpAnyH_done (by kernel_rfl) ?_ _
        refine NoPanic.normal ?_
        go_wp2_with fail
        go_ret
        exact ⟨rfl, HB2.out.step (bl_tr HB.out ((Bl.refl wr).drew))⟩
      · rw [decide_eq_false hyx] at HE
        have HN2 := hidI (HNEW.out hyx)
        clear HNEW hyx
        generalize y.k.map vb = KY at *
        generalize x.k.map vb = KX at *
        generalize fR x = FX at *
        go_upto_region 8 with (first | go_skip)
        refine wp_region_noPanic ?_
        refine wp_region_held_drew (S := fun U => Bl wr U) (by kernel_rfl) (((Bl.refl wr).drew)) (fun hHeld => ?_)
        refine wpAnyH_take (i := 0) rfl (by kernel_rfl) (by kernel_rfl) (by kernel_rfl) (fun _ _ _ h => h) (yi_move (by kernel_rfl) rfl rfl) (by assumption) ?_
        simp only [Act.put, List.getElem_toArray, List.getElem_cons_succ, List.getElem_cons_zero, List.setIfInBounds_toArray, List.set_cons_zero, List.set_cons_succ, Act.eval, Array.getD_eq_getD_getElem?, List.getElem?_toArray, List.getElem?_cons_succ, List.getElem?_cons_zero, Option.getD_some]
        refine wpAnyH_take (i := 1) rfl (by kernel_rfl) (by kernel_rfl) (by kernel_rfl) (fun _ _ _ h => h) (yi_move (by kernel_rfl) rfl rfl) (by assumption) ?_
        simp only [Act.put, List.getElem_toArray, List.getElem_cons_succ, List.getElem_cons_zero, List.setIfInBounds_toArray, List.set_cons_zero, List.set_cons_succ, Act.eval, Array.getD_eq_getD_getElem?, List.getElem?_toArray, List.getElem?_cons_succ, List.getElem?_cons_zero, Option.getD_some]
        refine wpAnyH_take (i := 2) (v := ?_) rfl (by kernel_rfl) (by kernel_rfl) (by kernel_rfl) (fun _ _ _ h => h) (Or.inl ⟨by kernel_rfl, ?_⟩) (by assumption) ?_
        rotate_left
        · (intro w hSw; (try dsimp only at hSw); go_simp; (try with_reducible rfl))
        simp only [Act.put, List.getElem_toArray, List.getElem_cons_succ, List.getElem_cons_zero, List.setIfInBounds_toArray, List.set_cons_zero, List.set_cons_succ, Act.eval, Array.getD_eq_getD_getElem?, List.getElem?_toArray, List.getElem?_cons_succ, List.getElem?_cons_zero, Option.getD_some]
        refine wpAnyH_take (i := 3) (v := ?_) rfl (by kernel_rfl) (by kernel_rfl) (by kernel_rfl) (fun _ _ _ h => h) (Or.inl ⟨by kernel_rfl, ?_⟩) (by assumption) ?_
        rotate_left
        · (intro w hSw; (try dsimp only at hSw); go_simp; (try with_reducible rfl))
        simp only [Act.put, List.getElem_toArray, List.getElem_cons_succ, List.getElem_cons_zero, List.setIfInBounds_toArray, List.set_cons_zero, List.set_cons_succ, Act.eval, Array.getD_eq_getD_getElem?, List.getElem?_toArray, List.getElem?_cons_succ, List.getElem?_cons_zero, Option.getD_some]
        refine wpAnyH_take (i := 4) (v := .agg (List.toArray KY)) rfl (by kernel_rfl) (by kernel_rfl) (by kernel_rfl) (fun _ _ _ h => h) (yieldsIf_load_mid (by kernel_rfl) _ (.tmp 27) (by kernel_rfl) b (off + i * 65) (by kernel_rfl) KY _ (fun W hW => (HQ.out _ hW).1) und27 rfl IY.out) (by assumption) ?_
        simp only [Act.put, List.getElem_toArray, List.getElem_cons_succ, List.getElem_cons_zero, List.setIfInBounds_toArray, List.set_cons_zero, List.set_cons_succ, Act.eval, Array.getD_eq_getD_getElem?, List.getElem?_toArray, List.getElem?_cons_succ, List.getElem?_cons_zero, Option.getD_some]
        refine wpAnyH_take (i := 5) (v := ?_) rfl (by kernel_rfl) (by kernel_rfl) (by kernel_rfl) (fun _ _ _ h => h) (Or.inl ⟨by kernel_rfl, ?_⟩) (by assumption) ?_
        rotate_left
        · (intro w hSw; (try dsimp only at hSw); go_simp; (try with_reducible rfl))
        simp only [Act.put, List.getElem_toArray, List.getElem_cons_succ, List.getElem_cons_zero, List.setIfInBounds_toArray, List.set_cons_zero, List.set_cons_succ, Act.eval, Array.getD_eq_getD_getElem?, List.getElem?_toArray, List.getElem?_cons_succ, List.getElem?_cons_zero, Option.getD_some]
        refine wpAnyH_take (i := 6) (v := .agg (List.toArray KX)) rfl (by kernel_rfl) (by kernel_rfl) (by kernel_rfl) (fun _ _ _ h => h) (yieldsIf_load_mid (by kernel_rfl) _ (.tmp 29) (by kernel_rfl) w.heap.size 0 (by kernel_rfl) KX _ (fun W hW => (HQ.out _ hW).2) und27 rfl IX.out) (by assumption) ?_
        simp only [Act.put, List.getElem_toArray, List.getElem_cons_succ, List.getElem_cons_zero, List.setIfInBounds_toArray, List.set_cons_zero, List.set_cons_succ, Act.eval, Array.getD_eq_getD_getElem?, List.getElem?_toArray, List.getElem?_cons_succ, List.getElem?_cons_zero, Option.getD_some]
        refine wpAnyH_take (i := 7) (v := ?_) rfl (by kernel_rfl) (by kernel_rfl) (by kernel_rfl) (fun _ _ _ h => h) (Or.inl ⟨by kernel_rfl, ?_⟩) (by assumption) ?_
        rotate_left
        · (intro w hSw; have hX := HE.out w; go_simp; (try with_reducible rfl))
        simp only [Act.put, List.getElem_toArray, List.getElem_cons_succ, List.getElem_cons_zero, List.setIfInBounds_toArray, List.set_cons_zero, List.set_cons_succ, Act.eval, Array.getD_eq_getD_getElem?, List.getElem?_toArray, List.getElem?_cons_succ, List.getElem?_cons_zero, Option.getD_some]
        refine wpAnyH_done (by kernel_rfl) ?_ _
        refine NoPanic.normal ?_
        go_wp2_with fail
        go_roundw
        case rel => exact ⟨i + 1, by omega, by first | rfl | go_num, HN2.out, bl_tr HB.out ((Bl.refl wr).drew)⟩
        case measure => simp [intOf]; omega
    · obtain rfl : i = n := by omega
      have hiz : ¬ (i : Int) < (i : Int) := by omega
      have hall : ∀ y ∈ l, y.k ≠ x.k := fun y hy => hnew y (by rw [HN.out, List.take_length]; exact hy)
      have HPL2 := hidI (HPL.out.imp_right fun h => (⟨h.1, h.2.1, h.2.2.1, h.2.2.2.1, h.2.2.2.2 hall⟩ : _ ∧ _ ∧ _ ∧ _ ∧ _))
      have HQX : Hid (∀ U, Bl wr U → U.rangeAt w.heap.size 0 (fR x) ∧ True) := fun U h => ⟨(HBX.out U (bl_tr HB.out h)).1, trivial⟩
      have HKX : Hid (∀ U, Bl W2 U → U.rangeAt w.heap.size 0 (x.k.map vb) ∧ U.cell? ⟨w.heap.size + 1, 0, none⟩ = some (.int .i64 d) ∧ U.cell? ⟨w.heap.size + 1, 1, none⟩ = some (.int .i64 p)) := fun U h => (HBX.out U h).2
      have IX := hidI (HIK.out x)
      clear hnew hall hlt HEK HIK HPL HBX
      generalize x.k.map vb = KX at *
      generalize fR x = FX at *
      go_upto_region 10 with (first | go_skip)
      go_cut [8] (fun s8 wx => SL wx s8 (l ++ [x]) ∧ Bl wr wx)
      case first =>
        clear COa COb CIn CTa CTb HPL2
        refine wp_region_noPanic ?_
        refine wp_region_held_drew (S := fun U => Bl wr U) (by kernel_rfl) (((Bl.refl wr).drew)) (fun hHeld => ?_)
        refine wpAnyH_take (i := 1) rfl (by kernel_rfl) (by kernel_rfl) (by kernel_rfl) (fun _ _ _ h => h) (yi_move (by kernel_rfl) rfl rfl) (by assumption) ?_
        simp only [Act.put, List.getElem_toArray, List.getElem_cons_succ, List.getElem_cons_zero, List.setIfInBounds_toArray, List.set_cons_zero, List.set_cons_succ, Act.eval, Array.getD_eq_getD_getElem?, List.getElem?_toArray, List.getElem?_cons_succ, List.getElem?_cons_zero, Option.getD_some]
        refine wpAnyH_take (i := 3) (v := .agg (List.toArray FX)) rfl (by kernel_rfl) (by kernel_rfl) (by kernel_rfl) (fun _ _ _ h => h) (yieldsIf_load_mid (by kernel_rfl) _ (.tmp 4) (by kernel_rfl) w.heap.size 0 (by kernel_rfl) FX _ (fun W hW => (HQX.out _ hW).1) huR.out rfl IRX.out) (by assumption) ?_
        simp only [Act.put, List.getElem_toArray, List.getElem_cons_succ, List.getElem_cons_zero, List.setIfInBounds_toArray, List.set_cons_zero, List.set_cons_succ, Act.eval, Array.getD_eq_getD_getElem?, List.getElem?_toArray, List.getElem?_cons_succ, List.getElem?_cons_zero, Option.getD_some]
        refine wpAnyH_ready (rs := [0, 4]) (by kernel_rfl) (by simp) ?_
        refine AllReadyH.cons (o := _) rfl (fun K hK => ?_) ?_
        · go_simp
          have HA3 := ((Bl.refl wr).drew).alloc (.cells #[] 48)
          refine hK.out _ _ ((HA3)) (fun hHeld => ?_)
          clear hK K
          (try simp only [Act.put, List.getElem_toArray, List.getElem_cons_succ, List.getElem_cons_zero, List.setIfInBounds_toArray, List.set_cons_zero, List.set_cons_succ, Act.eval, Array.getD_eq_getD_getElem?, List.getElem?_toArray, List.getElem?_cons_succ, List.getElem?_cons_zero, Option.getD_some])
          refine wpAnyH_ready (rs := [2, 4]) (by kernel_rfl) (by simp) ?_
          refine AllReadyH.cons (o := _) rfl (fun K hK => ?_) ?_
          · refine so_of_wl (by kernel_rfl) (fun Q' hQ' => ?_)
            first | (refine wl_appG lyR 48 22 _ 72 undRs infoRc3 zRec_size (by decide) rfl _ _ rfl wr.heap.size [] (.slice (some ⟨wr.heap.size, 0, none⟩) 0 0) rfl (Below.size (HA3)) (oeA wr) a l i c HN.out rfl (HRS.out.bl (bl_tr (bl_tr HB2.out HB.out) (HA3))) (by have := HN.out; simp; omega) ?_; intro v2 w2 g1 g2; refine hQ' _ _ ?_; have HA4 : Bl wr w2 := Below.grown (HA3) g2 (Below.size (HA3)) (fun q hq => (owns_ge (oeA wr) hq).1)) | (refine wl_appG lyR 48 22 _ 72 undRs infoRc3 zRec_size (by decide) rfl _ _ rfl wr.heap.size [] (.slice (some ⟨wr.heap.size, 0, none⟩) 0 0) rfl (Below.size (HA3)) (oeA4 wr FX.toArray) a l i c HN.out rfl (HRS.out.bl (bl_tr (bl_tr HB2.out HB.out) (HA3))) (by have := HN.out; simp; omega) ?_; intro v2 w2 g1 g2; refine hQ' _ _ ?_; have HA4 : Bl wr w2 := Below.grown (HA3) g2 (Below.size (HA3)) (fun q hq => (owns_ge (oeA4 wr FX.toArray) hq).1); have BS := hidI ((g2.block _ (lt_heap (bsA4 wr FX.toArray)) (by simp [Value.ownBlock])).trans (bsA4 wr FX.toArray))) | (refine wl_appG lyR 48 22 _ 72 undRs infoRc3 zRec_size (by decide) rfl _ _ rfl wr.heap.size [] (.slice (some ⟨wr.heap.size + 1, 0, none⟩) 0 0) rfl (Below.size (HA3)) (oeB wr FX.toArray) a l i c HN.out rfl (HRS.out.bl (bl_tr (bl_tr HB2.out HB.out) (HA3))) (by have := HN.out; simp; omega) ?_; intro v2 w2 g1 g2; refine hQ' _ _ ?_; have HA4 : Bl wr w2 := Below.grown (HA3) g2 (Below.size (HA3)) (fun q hq => (owns_ge (oeB wr FX.toArray) hq).1); have BS := hidI ((g2.block _ (lt_heap (bsB wr FX.toArray)) (by simp [Value.ownBlock])).trans (bsB wr FX.toArray)))
            rw [List.nil_append] at g1
            have OW := hidI g1
            clear g1 g2 hQ'
            refine hK.out _ _ ((HA4)) (fun hHeld => ?_)
            clear hK K
            (try simp only [Act.put, List.getElem_toArray, List.getElem_cons_succ, List.getElem_cons_zero, List.setIfInBounds_toArray, List.set_cons_zero, List.set_cons_succ, Act.eval, Array.getD_eq_getD_getElem?, List.getElem?_toArray, List.getElem?_cons_succ, List.getElem?_cons_zero, Option.getD_some])
            refine wpAnyH_ready (rs := [4]) (by kernel_rfl) (by simp) ?_
            refine AllReadyH.cons (o := _) rfl (fun K hK => ?_) AllReadyH.nil
            refine so_bs (by kernel_rfl) 22 48 1 _ rfl [FX] (by simp only [List.map_toArray, List.map_cons, List.map_nil]; rfl) rfl 65 HL2.out FX (by simp) 72 _ undRs infoRc3 (by decide) (by decide) (by decide) (by decide) ?_
            (try (have OW2 := hidI (ownsRow_bl OW.out ((Bl.refl _).alloc (.cells FX.toArray 48))); clear OW; have OW := OW2; clear OW2; have BS := hidI (blk_new (HA4) FX.toArray 48)))
            have HA5 := (HA4).alloc (.cells FX.toArray 48)
            refine hK.out _ _ ((HA5)) (fun hHeld => ?_)
            clear hK K
            (try simp only [Act.put, List.getElem_toArray, List.getElem_cons_succ, List.getElem_cons_zero, List.setIfInBounds_toArray, List.set_cons_zero, List.set_cons_succ, Act.eval, Array.getD_eq_getD_getElem?, List.getElem?_toArray, List.getElem?_cons_succ, List.getElem?_cons_zero, Option.getD_some])
            refine wpAnyH_ready (rs := [5]) (by kernel_rfl) (by simp) ?_
            refine AllReadyH.cons (o := _) rfl (fun K hK => ?_) AllReadyH.nil
            refine so_of_wl (by kernel_rfl) (fun Q' hQ' => ?_)
            refine wl_appG lyR 48 22 _ 72 undRs infoRc3 zRec_size (by decide) rfl _ _ rfl wr.heap.size l _ rfl (Below.size (HA5)) OW.out _ [x] 1 1 rfl rfl (rs_of lyR HFX.out BS.out) (by have := HN.out; simp; omega) ?_
            intro v5 w5 g1 g2
            refine hQ' _ _ ?_
            have HA6 : Bl wr w5 := Below.grown (HA5) g2 (Below.size (HA5)) (fun q hq => (owns_ge OW.out hq).1)
            have HSM := hidI (sl_own g1)
            clear OW BS g1 g2 hQ'
            refine hK.out _ _ ((HA6)) (fun hHeld => ?_)
            clear hK K
            (try simp only [Act.put, List.getElem_toArray, List.getElem_cons_succ, List.getElem_cons_zero, List.setIfInBounds_toArray, List.set_cons_zero, List.set_cons_succ, Act.eval, Array.getD_eq_getD_getElem?, List.getElem?_toArray, List.getElem?_cons_succ, List.getElem?_cons_zero, Option.getD_some])
            refine wpAnyH_take (i := 6) rfl (by kernel_rfl) (by kernel_rfl) (by kernel_rfl) (fun _ _ _ h => h) (yi_assign (by kernel_rfl) rfl rfl) (by assumption) ?_
            simp only [Act.put, List.getElem_toArray, List.getElem_cons_succ, List.getElem_cons_zero, List.setIfInBounds_toArray, List.set_cons_zero, List.set_cons_succ, Act.eval, Array.getD_eq_getD_getElem?, List.getElem?_toArray, List.getElem?_cons_succ, List.getElem?_cons_zero, Option.getD_some]
            refine wpAnyH_done (by kernel_rfl) ?_ _
            refine NoPanic.normal ?_
            go_wp2_with fail
            go_meet
            exact ⟨HSM.out, HA6⟩
          refine AllReadyH.cons (o := _) rfl (fun K hK => ?_) ?_
          · refine so_bs (by kernel_rfl) 22 48 1 _ rfl [FX] (by simp only [List.map_toArray, List.map_cons, List.map_nil]; rfl) rfl 65 HL2.out FX (by simp) 72 _ undRs infoRc3 (by decide) (by decide) (by decide) (by decide) ?_
            (try (have OW2 := hidI (ownsRow_bl OW.out ((Bl.refl _).alloc (.cells FX.toArray 48))); clear OW; have OW := OW2; clear OW2; have BS := hidI (blk_new (HA3) FX.toArray 48)))
            have HA7 := (HA3).alloc (.cells FX.toArray 48)
            refine hK.out _ _ ((HA7)) (fun hHeld => ?_)
            clear hK K
            (try simp only [Act.put, List.getElem_toArray, List.getElem_cons_succ, List.getElem_cons_zero, List.setIfInBounds_toArray, List.set_cons_zero, List.set_cons_succ, Act.eval, Array.getD_eq_getD_getElem?, List.getElem?_toArray, List.getElem?_cons_succ, List.getElem?_cons_zero, Option.getD_some])
            refine wpAnyH_ready (rs := [2]) (by kernel_rfl) (by simp) ?_
            refine AllReadyH.cons (o := _) rfl (fun K hK => ?_) AllReadyH.nil
            refine so_of_wl (by kernel_rfl) (fun Q' hQ' => ?_)
            first | (refine wl_appG lyR 48 22 _ 72 undRs infoRc3 zRec_size (by decide) rfl _ _ rfl wr.heap.size [] (.slice (some ⟨wr.heap.size, 0, none⟩) 0 0) rfl (Below.size (HA7)) (oeA wr) a l i c HN.out rfl (HRS.out.bl (bl_tr (bl_tr HB2.out HB.out) (HA7))) (by have := HN.out; simp; omega) ?_; intro v2 w2 g1 g2; refine hQ' _ _ ?_; have HA8 : Bl wr w2 := Below.grown (HA7) g2 (Below.size (HA7)) (fun q hq => (owns_ge (oeA wr) hq).1)) | (refine wl_appG lyR 48 22 _ 72 undRs infoRc3 zRec_size (by decide) rfl _ _ rfl wr.heap.size [] (.slice (some ⟨wr.heap.size, 0, none⟩) 0 0) rfl (Below.size (HA7)) (oeA4 wr FX.toArray) a l i c HN.out rfl (HRS.out.bl (bl_tr (bl_tr HB2.out HB.out) (HA7))) (by have := HN.out; simp; omega) ?_; intro v2 w2 g1 g2; refine hQ' _ _ ?_; have HA8 : Bl wr w2 := Below.grown (HA7) g2 (Below.size (HA7)) (fun q hq => (owns_ge (oeA4 wr FX.toArray) hq).1); have BS := hidI ((g2.block _ (lt_heap (bsA4 wr FX.toArray)) (by simp [Value.ownBlock])).trans (bsA4 wr FX.toArray))) | (refine wl_appG lyR 48 22 _ 72 undRs infoRc3 zRec_size (by decide) rfl _ _ rfl wr.heap.size [] (.slice (some ⟨wr.heap.size + 1, 0, none⟩) 0 0) rfl (Below.size (HA7)) (oeB wr FX.toArray) a l i c HN.out rfl (HRS.out.bl (bl_tr (bl_tr HB2.out HB.out) (HA7))) (by have := HN.out; simp; omega) ?_; intro v2 w2 g1 g2; refine hQ' _ _ ?_; have HA8 : Bl wr w2 := Below.grown (HA7) g2 (Below.size (HA7)) (fun q hq => (owns_ge (oeB wr FX.toArray) hq).1); have BS := hidI ((g2.block _ (lt_heap (bsB wr FX.toArray)) (by simp [Value.ownBlock])).trans (bsB wr FX.toArray)))
            rw [List.nil_append] at g1
            have OW := hidI g1
            clear g1 g2 hQ'
            refine hK.out _ _ ((HA8)) (fun hHeld => ?_)
            clear hK K
            (try simp only [Act.put, List.getElem_toArray, List.getElem_cons_succ, List.getElem_cons_zero, List.setIfInBounds_toArray, List.set_cons_zero, List.set_cons_succ, Act.eval, Array.getD_eq_getD_getElem?, List.getElem?_toArray, List.getElem?_cons_succ, List.getElem?_cons_zero, Option.getD_some])
            refine wpAnyH_ready (rs := [5]) (by kernel_rfl) (by simp) ?_
            refine AllReadyH.cons (o := _) rfl (fun K hK => ?_) AllReadyH.nil
            refine so_of_wl (by kernel_rfl) (fun Q' hQ' => ?_)
            refine wl_appG lyR 48 22 _ 72 undRs infoRc3 zRec_size (by decide) rfl _ _ rfl wr.heap.size l _ rfl (Below.size (HA8)) OW.out _ [x] 1 1 rfl rfl (rs_of lyR HFX.out BS.out) (by have := HN.out; simp; omega) ?_
            intro v5 w5 g1 g2
            refine hQ' _ _ ?_
            have HA9 : Bl wr w5 := Below.grown (HA8) g2 (Below.size (HA8)) (fun q hq => (owns_ge OW.out hq).1)
            have HSM := hidI (sl_own g1)
            clear OW BS g1 g2 hQ'
            refine hK.out _ _ ((HA9)) (fun hHeld => ?_)
            clear hK K
            (try simp only [Act.put, List.getElem_toArray, List.getElem_cons_succ, List.getElem_cons_zero, List.setIfInBounds_toArray, List.set_cons_zero, List.set_cons_succ, Act.eval, Array.getD_eq_getD_getElem?, List.getElem?_toArray, List.getElem?_cons_succ, List.getElem?_cons_zero, Option.getD_some])
            refine wpAnyH_take (i := 6) rfl (by kernel_rfl) (by kernel_rfl) (by kernel_rfl) (fun _ _ _ h => h) (yi_assign (by kernel_rfl) rfl rfl) (by assumption) ?_
            simp only [Act.put, List.getElem_toArray, List.getElem_cons_succ, List.getElem_cons_zero, List.setIfInBounds_toArray, List.set_cons_zero, List.set_cons_succ, Act.eval, Array.getD_eq_getD_getElem?, List.getElem?_toArray, List.getElem?_cons_succ, List.getElem?_cons_zero, Option.getD_some]
            refine wpAnyH_done (by kernel_rfl) ?_ _
            refine NoPanic.normal ?_
            go_wp2_with fail
            go_meet
            exact ⟨HSM.out, HA9⟩
          exact AllReadyH.nil
        refine AllReadyH.cons (o := _) rfl (fun K hK => ?_) ?_
        · refine so_bs (by kernel_rfl) 22 48 1 _ rfl [FX] (by simp only [List.map_toArray, List.map_cons, List.map_nil]; rfl) rfl 65 HL2.out FX (by simp) 72 _ undRs infoRc3 (by decide) (by decide) (by decide) (by decide) ?_
          (try (have OW2 := hidI (ownsRow_bl OW.out ((Bl.refl _).alloc (.cells FX.toArray 48))); clear OW; have OW := OW2; clear OW2; have BS := hidI (blk_new ((Bl.refl wr).drew) FX.toArray 48)))
          have HA10 := ((Bl.refl wr).drew).alloc (.cells FX.toArray 48)
          refine hK.out _ _ ((HA10)) (fun hHeld => ?_)
          clear hK K
          (try simp only [Act.put, List.getElem_toArray, List.getElem_cons_succ, List.getElem_cons_zero, List.setIfInBounds_toArray, List.set_cons_zero, List.set_cons_succ, Act.eval, Array.getD_eq_getD_getElem?, List.getElem?_toArray, List.getElem?_cons_succ, List.getElem?_cons_zero, Option.getD_some])
          refine wpAnyH_ready (rs := [0]) (by kernel_rfl) (by simp) ?_
          refine AllReadyH.cons (o := _) rfl (fun K hK => ?_) AllReadyH.nil
          go_simp
          have HA11 := (HA10).alloc (.cells #[] 48)
          refine hK.out _ _ ((HA11)) (fun hHeld => ?_)
          clear hK K
          (try simp only [Act.put, List.getElem_toArray, List.getElem_cons_succ, List.getElem_cons_zero, List.setIfInBounds_toArray, List.set_cons_zero, List.set_cons_succ, Act.eval, Array.getD_eq_getD_getElem?, List.getElem?_toArray, List.getElem?_cons_succ, List.getElem?_cons_zero, Option.getD_some])
          refine wpAnyH_ready (rs := [2]) (by kernel_rfl) (by simp) ?_
          refine AllReadyH.cons (o := _) rfl (fun K hK => ?_) AllReadyH.nil
          refine so_of_wl (by kernel_rfl) (fun Q' hQ' => ?_)
          first | (refine wl_appG lyR 48 22 _ 72 undRs infoRc3 zRec_size (by decide) rfl _ _ rfl wr.heap.size [] (.slice (some ⟨wr.heap.size, 0, none⟩) 0 0) rfl (Below.size (HA11)) (oeA wr) a l i c HN.out rfl (HRS.out.bl (bl_tr (bl_tr HB2.out HB.out) (HA11))) (by have := HN.out; simp; omega) ?_; intro v2 w2 g1 g2; refine hQ' _ _ ?_; have HA12 : Bl wr w2 := Below.grown (HA11) g2 (Below.size (HA11)) (fun q hq => (owns_ge (oeA wr) hq).1)) | (refine wl_appG lyR 48 22 _ 72 undRs infoRc3 zRec_size (by decide) rfl _ _ rfl wr.heap.size [] (.slice (some ⟨wr.heap.size, 0, none⟩) 0 0) rfl (Below.size (HA11)) (oeA4 wr FX.toArray) a l i c HN.out rfl (HRS.out.bl (bl_tr (bl_tr HB2.out HB.out) (HA11))) (by have := HN.out; simp; omega) ?_; intro v2 w2 g1 g2; refine hQ' _ _ ?_; have HA12 : Bl wr w2 := Below.grown (HA11) g2 (Below.size (HA11)) (fun q hq => (owns_ge (oeA4 wr FX.toArray) hq).1); have BS := hidI ((g2.block _ (lt_heap (bsA4 wr FX.toArray)) (by simp [Value.ownBlock])).trans (bsA4 wr FX.toArray))) | (refine wl_appG lyR 48 22 _ 72 undRs infoRc3 zRec_size (by decide) rfl _ _ rfl wr.heap.size [] (.slice (some ⟨wr.heap.size + 1, 0, none⟩) 0 0) rfl (Below.size (HA11)) (oeB wr FX.toArray) a l i c HN.out rfl (HRS.out.bl (bl_tr (bl_tr HB2.out HB.out) (HA11))) (by have := HN.out; simp; omega) ?_; intro v2 w2 g1 g2; refine hQ' _ _ ?_; have HA12 : Bl wr w2 := Below.grown (HA11) g2 (Below.size (HA11)) (fun q hq => (owns_ge (oeB wr FX.toArray) hq).1); have BS := hidI ((g2.block _ (lt_heap (bsB wr FX.toArray)) (by simp [Value.ownBlock])).trans (bsB wr FX.toArray)))
          rw [List.nil_append] at g1
          have OW := hidI g1
          clear g1 g2 hQ'
          refine hK.out _ _ ((HA12)) (fun hHeld => ?_)
          clear hK K
          (try simp only [Act.put, List.getElem_toArray, List.getElem_cons_succ, List.getElem_cons_zero, List.setIfInBounds_toArray, List.set_cons_zero, List.set_cons_succ, Act.eval, Array.getD_eq_getD_getElem?, List.getElem?_toArray, List.getElem?_cons_succ, List.getElem?_cons_zero, Option.getD_some])
          refine wpAnyH_ready (rs := [5]) (by kernel_rfl) (by simp) ?_
          refine AllReadyH.cons (o := _) rfl (fun K hK => ?_) AllReadyH.nil
          refine so_of_wl (by kernel_rfl) (fun Q' hQ' => ?_)
          refine wl_appG lyR 48 22 _ 72 undRs infoRc3 zRec_size (by decide) rfl _ _ rfl wr.heap.size l _ rfl (Below.size (HA12)) OW.out _ [x] 1 1 rfl rfl (rs_of lyR HFX.out BS.out) (by have := HN.out; simp; omega) ?_
          intro v5 w5 g1 g2
          refine hQ' _ _ ?_
          have HA13 : Bl wr w5 := Below.grown (HA12) g2 (Below.size (HA12)) (fun q hq => (owns_ge OW.out hq).1)
          have HSM := hidI (sl_own g1)
          clear OW BS g1 g2 hQ'
          refine hK.out _ _ ((HA13)) (fun hHeld => ?_)
          clear hK K
          (try simp only [Act.put, List.getElem_toArray, List.getElem_cons_succ, List.getElem_cons_zero, List.setIfInBounds_toArray, List.set_cons_zero, List.set_cons_succ, Act.eval, Array.getD_eq_getD_getElem?, List.getElem?_toArray, List.getElem?_cons_succ, List.getElem?_cons_zero, Option.getD_some])
          refine wpAnyH_take (i := 6) rfl (by kernel_rfl) (by kernel_rfl) (by kernel_rfl) (fun _ _ _ h => h) (yi_assign (by kernel_rfl) rfl rfl) (by assumption) ?_
          simp only [Act.put, List.getElem_toArray, List.getElem_cons_succ, List.getElem_cons_zero, List.setIfInBounds_toArray, List.set_cons_zero, List.set_cons_succ, Act.eval, Array.getD_eq_getD_getElem?, List.getElem?_toArray, List.getElem?_cons_succ, List.getElem?_cons_zero, Option.getD_some]
          refine wpAnyH_done (by kernel_rfl) ?_ _
          refine NoPanic.normal ?_
          go_wp2_with fail
          go_meet
          exact ⟨HSM.out, HA13⟩
        exact AllReadyH.nil
      case rest =>
      as_aux_lemma =>
      obtain ⟨hsm, hb⟩ := hcut
      have HSM := hidI hsm
      have HC1 := hidI (bl_tr HB.out hb)
      clear hsm hb HB HQX
      obtain ⟨_, y0, y1⟩ := HKX.out _ HC1.out
      go_upto_region 13 with (first
        | go_skip
        | (go_at_call 9; refine (COa.out _ HC1.out).mono ?_; clear COa; rintro e w3 ⟨rfl, b3⟩; have HC3 := hidI (bl_tr HC1.out b3); have HSM3 := hidI (HSM.out.bl b3); clear HC1 HSM b3 y0 y1)
        | (refine wl_rowU rfl 26 _ _ rfl w3.heap.size XA rfl rfl 26 zRg.toArray (HZ.out _) 35 infoRg HLX.out.1 HZS.out HLX.out.2 ?_; intro U4 hU1 hU2; have hb := HA.out _ _ _ hU2; have HC4 := hidI (bl_tr HC3.out hb); have HX4 := hidI hU1; have HSM4 := hidI (HSM3.out.bl hb); clear hU1 hU2 hb HC3 HSM3; obtain ⟨_, y0, y1⟩ := HKX.out _ HC4.out)
        | (go_at_call 9; refine (COb.out _ _ HSM4.out HC4.out).mono ?_; clear COb; rintro e w5 ⟨rfl, b5⟩; have HC5 := hidI (bl_tr HC4.out b5); have HX5 := hidI (Bl.heap b5 HX4.out); have HSM5 := hidI (HSM4.out.bl b5); clear HC4 HX4 HSM4 b5 y0 y1)
        | (refine wl_rowU rfl 26 _ _ rfl w5.heap.size XB rfl rfl 26 zRg.toArray (HZ.out _) 35 infoRg HLY.out.1 HZS.out HLY.out.2 ?_; intro U6 hU1 hU2; have hb := HA.out _ _ _ hU2; have HC6 := hidI (bl_tr HC5.out hb); have HX6 := hidI (Bl.heap hb HX5.out); have HY6 := hidI hU1; have HSM6 := hidI (HSM5.out.bl hb); clear hU1 hU2 hb HC5 HX5 HSM5))
      rcases HPL2.out with h0 | ⟨h0, ha1, ha2, ha3, ha4⟩
      · have hz1 : (er == 0) = false := by simpa using h0
        have hz2 : (er != 0) = true := by simpa using h0
        clear CIn CTa CTb HPL2 HEG
        go_wp2_with fail
        go_ret
        exact ⟨by first | rfl | simp, HB2.out.step HC6.out⟩
      · subst h0
        cases q with
        | false =>
          rw [ha4.1 rfl] at HEG
          clear ha4 HPL2 CTa CTb
          go_wp2_with (first
            | go_skip
            | (refine wl_midG (by rfl) 26 _ rfl w3.heap.size 0 rfl XA _ (range_of HX6.out) huG.out rfl IXA.out ?_)
            | (refine wl_midG (by rfl) 24 _ rfl w.heap.size 0 rfl KX _ (HKX.out _ HC6.out).1 und27 rfl IX.out ?_)
            | (go_at_call 21; refine (CIn.out _).mono ?_; clear CIn; rintro e w7 ⟨rfl, g7⟩; have HC7 := hidI (HC6.out.step (gn_bl g7)); have HX7 := hidI (Bl.heap (gn_bl g7) HX6.out); have HY7 := hidI (Bl.heap (gn_bl g7) HY6.out); clear HC6 HX6 HY6 g7)
            | (refine wl_midG (by rfl) 26 _ rfl w3.heap.size 0 rfl XA _ (range_of HX7.out) huG.out rfl IXA.out ?_)
            | (refine wl_midG (by rfl) 26 _ rfl w5.heap.size 0 rfl XB _ (range_of HY7.out) huG.out rfl IXB.out ?_)
            | (refine wl_eqlG (by rfl) 26 _ _ _ rfl XA.toArray XB.toArray rfl rfl gERg' _ HEG.out ?_))
          go_ret
          exact ⟨rfl, HB2.out.step HC7.out⟩
        | true =>
          obtain ⟨hb1, hb2⟩ := ha4.2 rfl
          clear ha4 HPL2 HEG
          subst hb1 hb2
          have hw1 : IntKind.i64.wrap (An + 1) = An + 1 := by rw [IntKind.wrap_i64]; omega
          have hw2 : IntKind.i64.wrap ((ma : Int) + 1) = (ma : Int) + 1 := by rw [IntKind.wrap_i64]; omega
          have hw3 : ((ma + 1 : Nat) : Int) = (ma : Int) + 1 := by omega
          go_upto_region 17 with (first
            | go_skip
            | (refine wl_midG (by rfl) 26 _ rfl w3.heap.size 0 rfl XA _ (range_of HX6.out) huG.out rfl IXA.out ?_)
            | (refine wl_midG (by rfl) 24 _ rfl w.heap.size 0 rfl KX _ (HKX.out _ HC6.out).1 und27 rfl IX.out ?_)
            | (go_at_call 21; refine (CIn.out _).mono ?_; clear CIn; rintro e w7 ⟨rfl, g7⟩; have HC7 := hidI (HC6.out.step (gn_bl g7)); have HX7 := hidI (Bl.heap (gn_bl g7) HX6.out); have HY7 := hidI (Bl.heap (gn_bl g7) HY6.out); have HSM7 := hidI (HSM6.out.bl (gn_bl g7)); clear HC6 HX6 HY6 HSM6 g7))
          have HQ17 : Hid (∀ U, Bl w7 U → U.rangeAt w5.heap.size 0 XB ∧ U.rangeAt w3.heap.size 0 XA ∧ U.cell? ⟨w5.heap.size, 2, none⟩ = some (.int .i64 (An + 1)) ∧ U.cell? ⟨w3.heap.size, 2, none⟩ = some (.int .i64 An)) := fun U h => by
            have r1 := range_of (Bl.heap h HX7.out)
            have r2 := range_of (Bl.heap h HY7.out)
            exact ⟨r2, r1, by have := r2 2 _ HXB2.out; simpa using this, by have := r1 2 _ HXA2.out; simpa using this⟩
          refine wp_region_noPanic ?_
          refine wp_region_held_drew (S := fun U => Bl w7 U) (by kernel_rfl) (((Bl.refl w7).drew)) (fun hHeld => ?_)
          refine wpAnyH_take (i := 0) (v := ?_) rfl (by kernel_rfl) (by kernel_rfl) (by kernel_rfl) (fun _ _ _ h => h) (Or.inl ⟨by kernel_rfl, ?_⟩) (by assumption) ?_
          rotate_left
          · (intro w hSw; (try dsimp only at hSw); go_simp; (try with_reducible rfl))
          simp only [Act.put, List.getElem_toArray, List.getElem_cons_succ, List.getElem_cons_zero, List.setIfInBounds_toArray, List.set_cons_zero, List.set_cons_succ, Act.eval, Array.getD_eq_getD_getElem?, List.getElem?_toArray, List.getElem?_cons_succ, List.getElem?_cons_zero, Option.getD_some]
          refine wpAnyH_take (i := 1) (v := ?_) rfl (by kernel_rfl) (by kernel_rfl) (by kernel_rfl) (fun _ _ _ h => h) (Or.inl ⟨by kernel_rfl, ?_⟩) (by assumption) ?_
          rotate_left
          · (intro w hSw; obtain ⟨_, _, hX, _⟩ := HQ17.out _ hSw; go_simp; (try with_reducible rfl))
          simp only [Act.put, List.getElem_toArray, List.getElem_cons_succ, List.getElem_cons_zero, List.setIfInBounds_toArray, List.set_cons_zero, List.set_cons_succ, Act.eval, Array.getD_eq_getD_getElem?, List.getElem?_toArray, List.getElem?_cons_succ, List.getElem?_cons_zero, Option.getD_some]
          refine wpAnyH_take (i := 2) (v := ?_) rfl (by kernel_rfl) (by kernel_rfl) (by kernel_rfl) (fun _ _ _ h => h) (Or.inl ⟨by kernel_rfl, ?_⟩) (by assumption) ?_
          rotate_left
          · (intro w hSw; (try dsimp only at hSw); go_simp; (try with_reducible rfl))
          simp only [Act.put, List.getElem_toArray, List.getElem_cons_succ, List.getElem_cons_zero, List.setIfInBounds_toArray, List.set_cons_zero, List.set_cons_succ, Act.eval, Array.getD_eq_getD_getElem?, List.getElem?_toArray, List.getElem?_cons_succ, List.getElem?_cons_zero, Option.getD_some]
          refine wpAnyH_take (i := 3) (v := ?_) rfl (by kernel_rfl) (by kernel_rfl) (by kernel_rfl) (fun _ _ _ h => h) (Or.inl ⟨by kernel_rfl, ?_⟩) (by assumption) ?_
          rotate_left
          · (intro w hSw; obtain ⟨_, _, _, hX⟩ := HQ17.out _ hSw; go_simp; (try with_reducible rfl))
          simp only [Act.put, List.getElem_toArray, List.getElem_cons_succ, List.getElem_cons_zero, List.setIfInBounds_toArray, List.set_cons_zero, List.set_cons_succ, Act.eval, Array.getD_eq_getD_getElem?, List.getElem?_toArray, List.getElem?_cons_succ, List.getElem?_cons_zero, Option.getD_some]
          refine wpAnyH_take (i := 4) (v := ?_) rfl (by kernel_rfl) (by kernel_rfl) (by kernel_rfl) (fun _ _ _ h => h) (Or.inl ⟨by kernel_rfl, ?_⟩) (by assumption) ?_
          rotate_left
          · (intro w hSw; (try dsimp only at hSw); go_simp; (try with_reducible rfl))
          simp only [Act.put, List.getElem_toArray, List.getElem_cons_succ, List.getElem_cons_zero, List.setIfInBounds_toArray, List.set_cons_zero, List.set_cons_succ, Act.eval, Array.getD_eq_getD_getElem?, List.getElem?_toArray, List.getElem?_cons_succ, List.getElem?_cons_zero, Option.getD_some]
          refine wpAnyH_take (i := 5) (v := ?_) rfl (by kernel_rfl) (by kernel_rfl) (by kernel_rfl) (fun _ _ _ h => h) (Or.inl ⟨by kernel_rfl, ?_⟩) (by assumption) ?_
          rotate_left
          · (intro w hSw; (try dsimp only at hSw); go_simp; (try with_reducible rfl))
          simp only [Act.put, List.getElem_toArray, List.getElem_cons_succ, List.getElem_cons_zero, List.setIfInBounds_toArray, List.set_cons_zero, List.set_cons_succ, Act.eval, Array.getD_eq_getD_getElem?, List.getElem?_toArray, List.getElem?_cons_succ, List.getElem?_cons_zero, Option.getD_some]
          refine wpAnyH_take (i := 6) rfl (by kernel_rfl) (by kernel_rfl) (by kernel_rfl) (fun _ _ _ h => h) (yi_move (by kernel_rfl) rfl rfl) (by assumption) ?_
          simp only [Act.put, List.getElem_toArray, List.getElem_cons_succ, List.getElem_cons_zero, List.setIfInBounds_toArray, List.set_cons_zero, List.set_cons_succ, Act.eval, Array.getD_eq_getD_getElem?, List.getElem?_toArray, List.getElem?_cons_succ, List.getElem?_cons_zero, Option.getD_some]
          refine wpAnyH_take (i := 7) (v := .agg (List.toArray XB)) rfl (by kernel_rfl) (by kernel_rfl) (by kernel_rfl) (fun _ _ _ h => h) (yieldsIf_load_mid (by kernel_rfl) _ (.tmp 11) (by kernel_rfl) w5.heap.size 0 (by kernel_rfl) XB _ (fun W hW => (HQ17.out _ hW).1) huG.out rfl IXB.out) (by assumption) ?_
          simp only [Act.put, List.getElem_toArray, List.getElem_cons_succ, List.getElem_cons_zero, List.setIfInBounds_toArray, List.set_cons_zero, List.set_cons_succ, Act.eval, Array.getD_eq_getD_getElem?, List.getElem?_toArray, List.getElem?_cons_succ, List.getElem?_cons_zero, Option.getD_some]
          refine wpAnyH_take (i := 8) rfl (by kernel_rfl) (by kernel_rfl) (by kernel_rfl) (fun _ _ _ h => h) (yi_move (by kernel_rfl) rfl rfl) (by assumption) ?_
          simp only [Act.put, List.getElem_toArray, List.getElem_cons_succ, List.getElem_cons_zero, List.setIfInBounds_toArray, List.set_cons_zero, List.set_cons_succ, Act.eval, Array.getD_eq_getD_getElem?, List.getElem?_toArray, List.getElem?_cons_succ, List.getElem?_cons_zero, Option.getD_some]
          refine wpAnyH_take (i := 11) (v := .agg (List.toArray XA)) rfl (by kernel_rfl) (by kernel_rfl) (by kernel_rfl) (fun _ _ _ h => h) (yieldsIf_load_mid (by kernel_rfl) _ (.tmp 9) (by kernel_rfl) w3.heap.size 0 (by kernel_rfl) XA _ (fun W hW => (HQ17.out _ hW).2.1) huG.out rfl IXA.out) (by assumption) ?_
          simp only [Act.put, List.getElem_toArray, List.getElem_cons_succ, List.getElem_cons_zero, List.setIfInBounds_toArray, List.set_cons_zero, List.set_cons_succ, Act.eval, Array.getD_eq_getD_getElem?, List.getElem?_toArray, List.getElem?_cons_succ, List.getElem?_cons_zero, Option.getD_some]
          refine wpAnyH_take (i := 12) rfl (by kernel_rfl) (by kernel_rfl) (by kernel_rfl) (fun _ _ _ h => h) (yi_move (by kernel_rfl) rfl rfl) (by assumption) ?_
          simp only [Act.put, List.getElem_toArray, List.getElem_cons_succ, List.getElem_cons_zero, List.setIfInBounds_toArray, List.set_cons_zero, List.set_cons_succ, Act.eval, Array.getD_eq_getD_getElem?, List.getElem?_toArray, List.getElem?_cons_succ, List.getElem?_cons_zero, Option.getD_some]
          refine wpAnyH_ready (rs := [9]) (by kernel_rfl) (by simp) ?_
          refine AllReadyH.cons (o := _) rfl (fun K hK => ?_) AllReadyH.nil
          go_simp
          go_at_call 15; refine (CTb.out _ _ (HSM7.out.bl ((Bl.refl w7).drew))).mono ?_; rintro e V12 ⟨a8, c8, rfl, hV12⟩; have HB12 := ((Bl.refl w7).drew).step hV12; clear hV12
          (try clear hHeld)
          refine hK.out _ _ ((HB12)) (fun hHeld => ?_)
          clear hK K
          (try simp only [Act.put, List.getElem_toArray, List.getElem_cons_succ, List.getElem_cons_zero, List.setIfInBounds_toArray, List.set_cons_zero, List.set_cons_succ, Act.eval, Array.getD_eq_getD_getElem?, List.getElem?_toArray, List.getElem?_cons_succ, List.getElem?_cons_zero, Option.getD_some])
          refine wpAnyH_take (i := 10) (v := ?_) rfl (by kernel_rfl) (by kernel_rfl) (by kernel_rfl) (fun _ _ _ h => h) (Or.inl ⟨by kernel_rfl, ?_⟩) (by assumption) ?_
          rotate_left
          · (intro w hSw; (try dsimp only at hSw); go_simp; (try with_reducible rfl))
          simp only [Act.put, List.getElem_toArray, List.getElem_cons_succ, List.getElem_cons_zero, List.setIfInBounds_toArray, List.set_cons_zero, List.set_cons_succ, Act.eval, Array.getD_eq_getD_getElem?, List.getElem?_toArray, List.getElem?_cons_succ, List.getElem?_cons_zero, Option.getD_some]
          refine wpAnyH_ready (rs := [13]) (by kernel_rfl) (by simp) ?_
          refine AllReadyH.cons (o := _) rfl (fun K hK => ?_) AllReadyH.nil
          go_simp
          go_at_call 15; refine (CTa.out _ (bl_tr HC7.out (HB12))).mono ?_; rintro e V14 ⟨a9, c9, rfl, hV14⟩; have HB14 := (HB12).step hV14; clear hV14
          (try clear hHeld)
          refine hK.out _ _ ((HB14)) (fun hHeld => ?_)
          clear hK K
          (try simp only [Act.put, List.getElem_toArray, List.getElem_cons_succ, List.getElem_cons_zero, List.setIfInBounds_toArray, List.set_cons_zero, List.set_cons_succ, Act.eval, Array.getD_eq_getD_getElem?, List.getElem?_toArray, List.getElem?_cons_succ, List.getElem?_cons_zero, Option.getD_some])
          refine wpAnyH_take (i := 14) (v := ?_) rfl (by kernel_rfl) (by kernel_rfl) (by kernel_rfl) (fun _ _ _ h => h) (Or.inl ⟨by kernel_rfl, ?_⟩) (by assumption) ?_
          rotate_left
          · (intro w hSw; (try dsimp only at hSw); go_simp; (try with_reducible rfl))
          simp only [Act.put, List.getElem_toArray, List.getElem_cons_succ, List.getElem_cons_zero, List.setIfInBounds_toArray, List.set_cons_zero, List.set_cons_succ, Act.eval, Array.getD_eq_getD_getElem?, List.getElem?_toArray, List.getElem?_cons_succ, List.getElem?_cons_zero, Option.getD_some]
          refine wpAnyH_take (i := 15) (v := ?_) rfl (by kernel_rfl) (by kernel_rfl) (by kernel_rfl) (fun _ _ _ h => h) (Or.inl ⟨by kernel_rfl, ?_⟩) (by assumption) ?_
          rotate_left
          · (intro w hSw; (try dsimp only at hSw); go_simp; (try with_reducible rfl))
          simp only [Act.put, List.getElem_toArray, List.getElem_cons_succ, List.getElem_cons_zero, List.setIfInBounds_toArray, List.set_cons_zero, List.set_cons_succ, Act.eval, Array.getD_eq_getD_getElem?, List.getElem?_toArray, List.getElem?_cons_succ, List.getElem?_cons_zero, Option.getD_some]
          refine wpAnyH_take (i := 16) (v := ?_) rfl (by kernel_rfl) (by kernel_rfl) (by kernel_rfl) (fun _ _ _ h => h) (Or.inl ⟨by kernel_rfl, ?_⟩) (by assumption) ?_
          rotate_left
          · (intro w hSw; (try dsimp only at hSw); go_simp; (try with_reducible rfl))
          simp only [Act.put, List.getElem_toArray, List.getElem_cons_succ, List.getElem_cons_zero, List.setIfInBounds_toArray, List.set_cons_zero, List.set_cons_succ, Act.eval, Array.getD_eq_getD_getElem?, List.getElem?_toArray, List.getElem?_cons_succ, List.getElem?_cons_zero, Option.getD_some]
          refine wpAnyH_take (i := 17) (v := ?_) rfl (by kernel_rfl) (by kernel_rfl) (by kernel_rfl) (fun _ _ _ h => h) (Or.inl ⟨by kernel_rfl, ?_⟩) (by assumption) ?_
          rotate_left
          · (intro w hSw; (try dsimp only at hSw); go_simp; (try with_reducible rfl))
          simp only [Act.put, List.getElem_toArray, List.getElem_cons_succ, List.getElem_cons_zero, List.setIfInBounds_toArray, List.set_cons_zero, List.set_cons_succ, Act.eval, Array.getD_eq_getD_getElem?, List.getElem?_toArray, List.getElem?_cons_succ, List.getElem?_cons_zero, Option.getD_some]
          refine wpAnyH_take (i := 18) rfl (by kernel_rfl) (by kernel_rfl) (by kernel_rfl) (fun _ _ _ h => h) (yi_assign (by kernel_rfl) rfl rfl) (by assumption) ?_
          simp only [Act.put, List.getElem_toArray, List.getElem_cons_succ, List.getElem_cons_zero, List.setIfInBounds_toArray, List.set_cons_zero, List.set_cons_succ, Act.eval, Array.getD_eq_getD_getElem?, List.getElem?_toArray, List.getElem?_cons_succ, List.getElem?_cons_zero, Option.getD_some]
          refine wpAnyH_done (by kernel_rfl) ?_ _
          refine NoPanic.normal ?_
          go_wp2_with fail
          go_ret
          exact ⟨rfl, HB2.out.step (bl_tr HC7.out (HB14))⟩
theorem grows_walk (l : List HG.R) (v : Value) (x : HG.R) (r : HG.G) (w : World) (hG : GW w) (hv : SL w v l) :
    Calls Tryd.prog 7 #[v, .agg (fR x).toArray, .agg (fG r).toArray] w fun e w' => e = .returned (.bool true) ∧ Bl w w' := by
  by_cases h : 80 < l.length
  · exact gr_long l v x r w hG hv h
  · exact gr_main l v x r w hG hv (by omega)
end Go.Proofs.YtfbjakhanjbaeaaDoor
