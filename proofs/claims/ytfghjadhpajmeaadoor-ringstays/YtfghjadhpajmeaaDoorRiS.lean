/- Without a node the others come in the same order: the walk. -/
import Derived.Test.YtfghjadhpajmeaaDoorRiO
import Derived.Deep.CutBlock
import Derived.Deep.DeepCutAuto
namespace Go.Proofs.YtfghjadhpajmeaaDoor
open Go.RowKit Go.Maps Go.Sort Go.Shelf
set_option linter.unusedVariables false
set_option linter.unusedSimpArgs false
attribute [local go_sem ↓] zero27

/-- two rows of ints of one's own beside each other -/
structure TW (N : Nat) (u v : Value) (A C : List Int) (W : World) : Prop where
  a : W.ownsRow N 3 1 u A.length (flG lyI A)
  c : W.ownsRow N 3 1 v C.length (flG lyI C)
  d : ∀ g, u.ownBlock = some g → v.ownBlock = some g → False
theorem TW.bl {N : Nat} {u v : Value} {A C : List Int} {W W' : World} (h : TW N u v A C W) (hb : Bl W W') : TW N u v A C W' := ⟨ownsRow_bl h.a hb, ownsRow_bl h.c hb, h.d⟩
theorem TW.swap {N : Nat} {u v : Value} {A C : List Int} {W : World} (h : TW N u v A C W) : TW N v u C A W := ⟨h.c, h.a, fun g h1 h2 => h.d g h2 h1⟩
/-- the first row has grown -/
theorem TW.app {N : Nat} {u v : Value} {A A' C : List Int} {W W' : World} (h : TW N u v A C W) {g c' : Nat} (h1 : W'.ownsRow N 3 1 (.slice (some ⟨g, 0, none⟩) A'.length c') A'.length (flG lyI A')) (hg : W.grownBy W' u.ownBlock) (hgg : u.ownBlock = some g ∨ W.heap.size ≤ g) : TW N (.slice (some ⟨g, 0, none⟩) A'.length c') v A' C W' := by
  refine ⟨h1, ?_, fun q e1 e2 => ?_⟩
  · cases e : v.ownBlock with
    | none => exact h.c.kept hg (Or.inl e)
    | some q => exact h.c.kept hg (Or.inr (fun e3 => h.d q (by rw [← e3, e]) e))
  · have e3 : g = q := Option.some.inj e1
    subst e3
    rcases hgg with h3 | h3
    · exact h.d g h3 e2
    · have := (owns_ge h.c e2).2; omega
theorem TW.new (W : World) : TW W.heap.size (.slice (some ⟨W.heap.size, 0, none⟩) 0 0) (.slice (some ⟨W.heap.size + 1, 0, none⟩) 0 0) [] [] ((W.alloc (.cells #[] 3)).alloc (.cells #[] 3)) := by
  have h2 := own_emptyR (W.alloc (.cells #[] 3)) 3 1
  have e : (W.alloc (.cells #[] 3)).heap.size = W.heap.size + 1 := by simp
  rw [e] at h2
  refine ⟨ownsRow_bl (own_emptyR W 3 1) ((Bl.refl _).alloc _), own_base h2 (by omega), fun g h1 h2 => ?_⟩
  have a : W.heap.size = g := Option.some.inj h1
  have b : W.heap.size + 1 = g := Option.some.inj h2
  omega
theorem wl_app1X {α : Type} (E : Lay α) {ops : Array Oper} {rest : List Oper} {o : Oper} {a : Act} {W U : World} {Q : Exit → Act → World → Prop} (T TS : TypeId) (z : Value) (bytes : Nat)
    (hund : Tryd.prog.underlying TS = some (.slice T)) (hinfo : (Tryd.prog.info? T).map (fun i => (i.zero, i.size, i.bytes)) = some (some z, E.k, bytes)) (hzc : z.cells.size = E.k) (hby : bytes ≤ 4096)
    (hgd : o.guard = none) (s x : Operand) (ho : o.op = .call { callee := .builtin .append, args := #[s, x], argTypes := #[TS, TS] }) (B n : Nat) (ks : List α) (hnk : n = ks.length) (t : α) (v : Value) (hs : a.eval s = v) (hB : B ≤ W.heap.size) (hown : W.ownsRow B T E.k v n (flG E ks))
    (N : Nat) (hN : N = W.heap.size) (hx : a.eval x = .slice (some ⟨N, 0, none⟩) 1 1) (hn : n ≤ 90000)
    (h : ∀ g c' w', w'.ownsRow B T E.k (.slice (some ⟨g, 0, none⟩) (n + 1) c') (n + 1) (flG E (ks ++ [t])) → W.grownBy w' v.ownBlock → (v.ownBlock = some g ∨ W.heap.size ≤ g) → g < w'.heap.size → wpList Tryd.prog ops Q rest (a.put o.dst (.slice (some ⟨g, 0, none⟩) (n + 1) c')) w') (C : Array Value) (hC : C = (E.f t).toArray) (hU : U = W.alloc (.cells C T)) : wpList Tryd.prog ops Q (o :: rest) a U := by
  subst hnk hU hC hN
  obtain ⟨i0, hi0, hz0, hz1, hz2⟩ := info_partsT hinfo
  have hsz : B ≤ (W.alloc (.cells (E.f t).toArray T)).heap.size := by simp; omega
  have hk := E.pos
  refine wpList_append_lies _ hgd s x TS ho B T i0 z E.k bytes hund hi0 hz0 hz1 hz2 hzc ?_ v ks.length (flG E ks) hs (ownsRow_bl hown ((Bl.refl W).alloc _)) ⟨W.heap.size, 0, none⟩ 1 1 (E.f t) hx (by rw [E.len]; omega) (fun j u hu => ?_) (E.one t) (by omega) (by unfold maxLen; omega) ?_ hsz _ rfl (fun g cap w' h1 h2 h3 h4 => ?_)
  · omega
  · rw [Addr.add_mid, Lib.cell_of_heap (heap_alloc_new W _), Nat.zero_add]
    simpa using hu
  · have : (ks.length + 1) * bytes ≤ 90001 * 4096 := Nat.mul_le_mul (by omega) hby
    omega
  · refine h _ _ w' (by rw [flG_app]; simpa [flG] using h1) ((World.grownBy_alloc W _ _).trans h2) ?_ h4
    rcases h3 with h3 | h3
    · exact Or.inl h3
    · right; simp at h3; omega
theorem stepo_app2I {ops : Array Oper} {o : Oper} {a : Act} {U : World} {K : Act → World → Prop} {Q : Exit → Act → World → Prop} {El : Prop}
    (hgd : o.guard = none) (s x : Operand) (ho : o.op = .call { callee := .builtin .append, args := #[s, x], argTypes := #[24, 24] }) (B n : Nat) (ks : List Int) (hnk : n = ks.length) (t1 t2 : Int) (v : Value) (hs : a.eval s = v) (hB : B ≤ U.heap.size) (hown : U.ownsRow B 3 1 v n (flG lyI ks))
    (N : Nat) (hx : a.eval x = .slice (some ⟨N, 0, none⟩) 2 2) (hc : U.heap[N]? = some (.cells #[.int .i64 t1, .int .i64 t2] 3 (0, 0))) (hn : n ≤ 90000)
    (h : ∀ g c' w', w'.ownsRow B 3 1 (.slice (some ⟨g, 0, none⟩) (n + 2) c') (n + 2) (flG lyI (ks ++ [t1, t2])) → U.grownBy w' v.ownBlock → (v.ownBlock = some g ∨ U.heap.size ≤ g) → g < w'.heap.size → K (a.put o.dst (.slice (some ⟨g, 0, none⟩) (n + 2) c')) w') : if Region.wanted o (yielded ops a.tmps) = true then Oper.wp Tryd.prog o a U K Q else El := by
  subst hnk
  obtain ⟨i0, hi0, hz0, hz1, hz2⟩ := info_partsT infoI3
  refine step_append_lies _ hgd s x 24 ho B 3 i0 (.int .i64 0) 1 8 undIs hi0 hz0 hz1 hz2 rfl (by omega) v ks.length (flG lyI ks) hs hown ⟨N, 0, none⟩ 2 2 (flG lyI [t1, t2]) hx rfl (fun j u hu => ?_) (fun u hu => ?_) (by omega) (by unfold maxLen; omega) (by omega) hB _ rfl (fun g cap w' h1 h2 h3 h4 => ?_)
  · rw [Addr.add_mid, Lib.cell_of_heap hc, Nat.zero_add]
    rcases j with _ | _ | j
    · simpa [flG, lyI] using hu
    · simpa [flG, lyI] using hu
    · simp [flG, lyI] at hu
  · simp [flG, lyI] at hu
    rcases hu with rfl | rfl <;> rfl
  · refine h _ _ w' (by simpa [flG] using h1) h2 ?_ h4
    rcases h3 with h3 | h3
    · exact Or.inl h3
    · right; omega
theorem has_succ {l : List Int} {j : Nat} {x y : Int} (h : l[j]? = some x) : decide (y ∈ l.take (j + 1)) = (decide (y ∈ l.take j) || (x == y)) := by
  rw [List.take_add_one, h, Option.toList_some]
  have e : (y ∈ l.take j ++ [x]) ↔ (y ∈ l.take j ∨ x = y) := by rw [List.mem_append, List.mem_singleton]; exact or_congr Iff.rfl ⟨Eq.symm, Eq.symm⟩
  by_cases h1 : y ∈ l.take j
  · rw [decide_eq_true (e.2 (Or.inl h1)), decide_eq_true h1]; rfl
  · by_cases h2 : x = y
    · rw [decide_eq_true (e.2 (Or.inr h2)), decide_eq_false h1, h2]; simp
    · have : ¬ (y ∈ l.take j ++ [x]) := fun k => (e.1 k).elim h1 h2
      rw [decide_eq_false this, decide_eq_false h1]; simp [h2]
def dbl (l : List Int) : List Int := l.flatMap fun x => [x, x]
def bkD (l : List Int) (k : Nat) : List Int := dbl (l.drop k).reverse
def bkW (g : Int) (l : List Int) (k : Nat) : List Int := RI.wo g (l.drop k).reverse
theorem drop_rev {l : List Int} {k : Nat} {x : Int} (h : l[k]? = some x) : (l.drop k).reverse = (l.drop (k + 1)).reverse ++ [x] := by
  obtain ⟨hk, e⟩ := List.getElem?_eq_some_iff.1 h
  rw [List.drop_eq_getElem_cons hk, List.reverse_cons, e]
theorem bkD_at {l : List Int} {k : Nat} {x : Int} (h : l[k]? = some x) : bkD l k = bkD l (k + 1) ++ [x, x] := by
  unfold bkD dbl; rw [drop_rev h, List.flatMap_append]; simp
theorem bkW_at {g : Int} {l : List Int} {k : Nat} {x : Int} (h : l[k]? = some x) : bkW g l k = if x = g then bkW g l (k + 1) else bkW g l (k + 1) ++ [x] := by
  unfold bkW RI.wo; rw [drop_rev h, List.filter_append]
  by_cases e : x = g
  · rw [if_pos e]; simp [e]
  · rw [if_neg e]; simp [e]
theorem dbl_len (l : List Int) : (dbl l).length = 2 * l.length := by
  induction l with
  | nil => rfl
  | cons x r ih => unfold dbl at *; rw [List.flatMap_cons, List.length_append, ih]; simp; omega
theorem bkD_len (l : List Int) (k : Nat) : (bkD l k).length ≤ 2 * l.length := by unfold bkD; rw [dbl_len, List.length_reverse, List.length_drop]; omega
theorem bkW_len (g : Int) (l : List Int) (k : Nat) : (bkW g l k).length ≤ l.length := by
  unfold bkW
  refine Nat.le_trans (wo_len _ _) ?_
  rw [List.length_reverse, List.length_drop]; omega
theorem mem_bkD (l : List Int) (x : Int) : x ∈ bkD l 0 ↔ x ∈ l := by unfold bkD dbl; simp
theorem mem_bkW (g : Int) (l : List Int) (x : Int) : x ∈ bkW g l 0 ↔ x ∈ RI.wo g l := by unfold bkW; rw [RI.mem_wo, RI.mem_wo]; simp
set_option maxRecDepth 8000 in
set_option maxHeartbeats 8000000 in
theorem ringStays_walk (d : List UInt8) (hd : d.length = 32) (l : List Int) (a : Option Addr) (c : Nat) (hn : l.length ≤ maxLen) (g : Int) (w : World) (hG : GW w) (hv : RS lyI w a l) :
    Calls Tryd.prog 4 #[.agg (dg d), .slice a l.length c, .int .i64 g] w fun e w' => e = .returned (.bool true) ∧ Below w.heap.size w w' := by
  have hz := hG.z
  have hG0 : GB w (w.alloc (.cells (dg d) 23)) := (GB.refl hG).alloc _
  by_cases h60 : l.length ≤ 60
  · obtain ⟨LD, hLD⟩ : ∃ LD : List Value, LD = d.map vb := ⟨_, rfl⟩
    have hdl : dg d = LD.toArray := by rw [hLD]; rfl
    have hLs : LD.length = 32 := by rw [hLD, List.length_map, hd]
    have hLi : (Tryd.prog.info? 23).map (·.size) = some LD.length := by rw [hLs]; exact info27
    rw [hdl]
    rw [hdl] at hG0
    have KP : Hid (∀ U, GB (w.alloc (.cells LD.toArray 23)) U → U.rangeAt w.heap.size 0 LD) := fun U hU j v hv => by
      rw [Nat.zero_add, hU.b.cell (p := ⟨w.heap.size, j, none⟩) (by simp), Lib.cell_of_heap (heap_alloc_new _ _), List.getElem?_toArray]; exact hv
    have hv0 : RS lyI (w.alloc (.cells LD.toArray 23)) a l := hv.bl hG0.b
    generalize hw0 : w.alloc (.cells LD.toArray 23) = w0 at *
    have HG0 : Hid (GB w w0) := hG0
    have CA : Hid (Calls Tryd.prog 7 #[] w0 fun e w' => e = .returned (.bool true) ∧ KS w0 [(a, l)] w') := (awake_13 w0 hG0.g).mono fun e w' ⟨h1, h2⟩ => ⟨h1, h2, fun r hr => by
      rcases List.mem_cons.1 hr with rfl | hr
      · exact hv0.bl h2.b
      · cases hr⟩
    have CW : Hid (∀ (q : List Int) (ao : Option Addr) (co : Nat) R U, KS w0 ((ao, q) :: R) U → q.length ≤ 1000 → Calls Tryd.prog 13 #[.agg LD.toArray, .slice ao q.length co] U fun e w' => ∃ a1 c1 out, e = .returned (.slice a1 out.length c1) ∧ RI.IsW (RI.near (RI.place d)) q out ∧ KS w0 ((a1, out) :: (ao, q) :: R) w') := fun q ao co R U h hq => by
      rw [← hdl]
      refine (Walk_x d hd q ao _ co rfl U h.1.g (h.2 (ao, q) List.mem_cons_self) (by omega)).mono ?_
      rintro e w' ⟨v, out, rfl, h1, h2, h3⟩
      obtain ⟨a', c', rfl, h4⟩ := owns_rs lyI h2
      exact ⟨a', c', out, rfl, h1, (h.step h3).add h4⟩
    have CI : Hid (∀ U R a1 a2 (q : List Int) c1 c2, KS w0 R U → (a1, q) ∈ R → (a2, q) ∈ R → q.length ≤ 6 → Calls Tryd.prog 12 #[.slice a1 q.length c1, .slice a2 q.length c2] U fun e w' => e = .returned (.bool true) ∧ KS w0 R w') := fun U R a1 a2 q c1 c2 h m1 m2 hq => by
      have hm : q.length ≤ maxLen := by unfold maxLen; omega
      refine (Ints_x _ _ a1 a2 c1 c2 U (h.2 (a1, q) m1) (h.2 (a2, q) m2) hm hm).mono ?_
      rintro e w' ⟨rfl, n, rfl⟩
      exact ⟨by simp, h.drewN n⟩
    clear hv hv0 hG hG0 hLD hdl
    have CW1 : Hid (∀ U, KS w0 [(a, l)] U → Calls Tryd.prog 13 #[.agg LD.toArray, .slice a l.length c] U fun e w' => ∃ a1 c1 out, e = .returned (.slice a1 out.length c1) ∧ RI.IsW (RI.near (RI.place d)) l out ∧ KS w0 [(a1, out), (a, l)] w') := fun U h => CW.out l a c [] U h (by omega)
    go_enter Tryd.func4, Tryd.ntmps4
    go_upto_region 6 with (first
      | go_skip
      | (go_at_call 7; refine (CA.out).mono ?_; clear CA; rintro e w1 ⟨rfl, HB⟩)
      | (refine wl_midG (by rfl) 23 _ rfl w.heap.size 0 rfl LD _ (KP.out _ HB.1) und27 rfl hLi ?_)
      | (go_at_call 13; refine (CW1.out _ HB).mono ?_; clear HB CW1; rintro e w2 ⟨a1, c1, out, rfl, HW, HB⟩))
    have HKp : Hid (KS w0 [(a1, out), (a, l)] w2) := HB
    have hol := HW.len
    have hTn := TW.new w2
    have hBn : Bl w2 ((w2.alloc (.cells #[] 3)).alloc (.cells #[] 3)) := ((Bl.refl w2).alloc _).alloc _
    clear HB
    go_wp2_with fail
    go_loopw [8, 9, 10] (fun u8 u9 u10 wr => ∃ k : Nat, k ≤ l.length ∧ u10 = .int .i64 ((k : Int) - 1) ∧ Bl w2 wr ∧ TW w2.heap.size u8 u9 (bkD l k) (bkW g l k) wr) (fun _ _ u10 _ => (intOf u10 + 1).toNat)
    case atStart => exact ⟨l.length, by omega, rfl, hBn, by unfold bkD bkW dbl RI.wo; rw [List.drop_length]; exact hTn⟩
    case round =>
      clear hBn hTn
      obtain ⟨k, hk, rfl, HB, ht⟩ := hrel
      generalize hwp : w2 = wp at *
      by_cases hlt : 0 < k
      · obtain ⟨m, rfl⟩ : ∃ m, k = m + 1 := ⟨k - 1, by omega⟩
        have em : ((m + 1 : Nat) : Int) - 1 = (m : Int) := by omega
        rw [em]
        obtain ⟨x, hx⟩ : ∃ x, l[m]? = some x := ⟨l[m], List.getElem?_eq_getElem (by omega)⟩
        have HXD := hidI (bkD_at hx)
        have HXW := hidI (bkW_at (g := g) hx)
        obtain ⟨b2, o2, hae, hb2, hcell⟩ := (HKp.out.2 (a, l) (by simp)).at1 hx
        have KC : Hid (∀ U, Bl wp U → U.cell? ⟨b2, o2 + m, none⟩ = some (.int .i64 x)) := fun U hU => by rw [hU.cell hb2]; exact hcell
        have hal : (bkD l (m + 1)).length ≤ 120 := Nat.le_trans (bkD_len _ _) (by omega)
        have hcl : (bkW g l (m + 1)).length ≤ 60 := Nat.le_trans (bkW_len _ _ _) (by omega)
        have HT : Hid (TW wp.heap.size u8 u9 (bkD l (m + 1)) (bkW g l (m + 1)) wr) := ht
        have HBh : Hid (Bl wp wr) := HB
        clear ht hx HB hb2 hcell em
        subst hae
        generalize bkD l (m + 1) = A at *
        generalize bkW g l (m + 1) = C at *
        have hml : m < l.length := by omega
        go_upto_region 11 with fail
        refine wp_region_noPanic ?_
        refine wp_region_held_drew (S := fun U => U.cell? ⟨b2, o2 + m, none⟩ = some (.int .i64 x)) (by kernel_rfl) (KC.out _ (HBh.out.drewN 1)) (fun hHeld => ?_)
        refine wpAnyH_take (i := 0) rfl (by kernel_rfl) (by kernel_rfl) (by kernel_rfl) (fun _ _ _ h => h) (yi_move (by kernel_rfl) rfl rfl) (by assumption) ?_
        simp only [Act.put, List.getElem_toArray, List.getElem_cons_succ, List.getElem_cons_zero, List.setIfInBounds_toArray, List.set_cons_zero, List.set_cons_succ]
        refine wpAnyH_take (i := 1) rfl (by kernel_rfl) (by kernel_rfl) (by kernel_rfl) (fun _ _ _ h => h) (yi_move (by kernel_rfl) rfl rfl) (by assumption) ?_
        simp only [Act.put, List.getElem_toArray, List.getElem_cons_succ, List.getElem_cons_zero, List.setIfInBounds_toArray, List.set_cons_zero, List.set_cons_succ]
        refine wpAnyH_take (i := 2) rfl (by kernel_rfl) (by kernel_rfl) (by kernel_rfl) (fun _ _ _ h => h) (yi_move (by kernel_rfl) rfl rfl) (by assumption) ?_
        simp only [Act.put, List.getElem_toArray, List.getElem_cons_succ, List.getElem_cons_zero, List.setIfInBounds_toArray, List.set_cons_zero, List.set_cons_succ]
        refine wpAnyH_take (i := 3) (v := ?_) rfl (by kernel_rfl) (by kernel_rfl) (by kernel_rfl) (fun _ _ _ h => h) (Or.inl ⟨by kernel_rfl, ?_⟩) (by assumption) ?_
        rotate_left
        · (intro w hSw; (try dsimp only at hSw); go_simp; (try with_reducible rfl))
        simp only [Act.put, List.getElem_toArray, List.getElem_cons_succ, List.getElem_cons_zero, List.setIfInBounds_toArray, List.set_cons_zero, List.set_cons_succ]
        refine wpAnyH_take (i := 4) (v := ?_) rfl (by kernel_rfl) (by kernel_rfl) (by kernel_rfl) (fun _ _ _ h => h) (Or.inl ⟨by kernel_rfl, ?_⟩) (by assumption) ?_
        rotate_left
        · (intro w hSw; (try dsimp only at hSw); go_simp; (try with_reducible rfl))
        simp only [Act.put, List.getElem_toArray, List.getElem_cons_succ, List.getElem_cons_zero, List.setIfInBounds_toArray, List.set_cons_zero, List.set_cons_succ]
        refine wpAnyH_take (i := 5) rfl (by kernel_rfl) (by kernel_rfl) (by kernel_rfl) (fun _ _ _ h => h) (yi_move (by kernel_rfl) rfl rfl) (by assumption) ?_
        simp only [Act.put, List.getElem_toArray, List.getElem_cons_succ, List.getElem_cons_zero, List.setIfInBounds_toArray, List.set_cons_zero, List.set_cons_succ]
        refine wpAnyH_take (i := 6) rfl (by kernel_rfl) (by kernel_rfl) (by kernel_rfl) (fun _ _ _ h => h) (yi_move (by kernel_rfl) rfl rfl) (by assumption) ?_
        simp only [Act.put, List.getElem_toArray, List.getElem_cons_succ, List.getElem_cons_zero, List.setIfInBounds_toArray, List.set_cons_zero, List.set_cons_succ]
        refine wpAnyH_take (i := 7) (v := ?_) rfl (by kernel_rfl) (by kernel_rfl) (by kernel_rfl) (fun _ _ _ h => h) (Or.inl ⟨by kernel_rfl, ?_⟩) (by assumption) ?_
        rotate_left
        · (intro w hSw; (try dsimp only at hSw); go_simp; (try with_reducible rfl))
        simp only [Act.put, List.getElem_toArray, List.getElem_cons_succ, List.getElem_cons_zero, List.setIfInBounds_toArray, List.set_cons_zero, List.set_cons_succ]
        refine wpAnyH_take (i := 8) (v := ?_) rfl (by kernel_rfl) (by kernel_rfl) (by kernel_rfl) (fun _ _ _ h => h) (Or.inl ⟨by kernel_rfl, ?_⟩) (by assumption) ?_
        rotate_left
        · (intro w hSw; (try dsimp only at hSw); go_simp; (try with_reducible rfl))
        simp only [Act.put, List.getElem_toArray, List.getElem_cons_succ, List.getElem_cons_zero, List.setIfInBounds_toArray, List.set_cons_zero, List.set_cons_succ]
        refine wpAnyH_ready (rs := [9]) (by kernel_rfl) (by simp) ?_
        refine AllReadyH.cons (o := _) rfl (fun K hK => ?_) AllReadyH.nil
        go_simp
        obtain ⟨U9, hU9⟩ : ∃ U, U = (wr.alloc (.cells #[.int .i64 x, .int .i64 x] 3)).drew := ⟨_, rfl⟩
        rw [← hU9]
        have HB9 : Bl wp U9 := by rw [hU9]; exact (HBh.out.alloc _).drew
        have HT9 : TW wp.heap.size u8 u9 A C U9 := by rw [hU9]; exact HT.out.bl (((Bl.refl wr).alloc _).drew)
        have HC9 : U9.heap[wr.heap.size]? = some (.cells #[.int .i64 x, .int .i64 x] 3 (0, 0)) := by rw [hU9]; exact heap_alloc_new wr _
        clear hU9
        refine hK.out _ _ (KC.out _ HB9) (fun hHeld => ?_)
        clear hK K
        (try simp only [Act.put, List.getElem_toArray, List.getElem_cons_succ, List.getElem_cons_zero, List.setIfInBounds_toArray, List.set_cons_zero, List.set_cons_succ])
        refine wpAnyH_ready (rs := [10]) (by kernel_rfl) (by simp) ?_
        refine AllReadyH.cons (o := _) rfl (fun K hK => ?_) AllReadyH.nil
        refine stepo_app2I rfl _ _ rfl wp.heap.size A.length A rfl x x u8 rfl HB9.size HT9.a wr.heap.size rfl HC9 (by omega) (fun g5 c5 w5 q1 q2 q3 q4 => ?_)
        have HT5 : TW wp.heap.size (.slice (some ⟨g5, 0, none⟩) (A ++ [x, x]).length c5) u9 (A ++ [x, x]) C w5 := HT9.app (by rw [List.length_append]; exact q1) q2 q3
        have HB5 : Bl wp w5 := HB9.grown q2 HB9.size (fun k hk => (owns_ge HT9.a hk).1)
        rw [List.length_append] at HT5
        refine hK.out _ _ (KC.out _ HB5) (fun hHeld => ?_)
        clear hK K
        (try simp only [Act.put, List.getElem_toArray, List.getElem_cons_succ, List.getElem_cons_zero, List.setIfInBounds_toArray, List.set_cons_zero, List.set_cons_succ])
        refine wpAnyH_take (i := 11) (v := .slice (some ⟨g5, 0, none⟩) (A.length + 2) c5) rfl (by kernel_rfl) (by kernel_rfl) (by kernel_rfl) (fun _ _ _ h => h) (yi_assign (by kernel_rfl) rfl (by rfl)) (by assumption) ?_
        simp only [Act.put, List.getElem_toArray, List.getElem_cons_succ, List.getElem_cons_zero, List.setIfInBounds_toArray, List.set_cons_zero, List.set_cons_succ]
        refine wpAnyH_done (by kernel_rfl) ?_ _
        refine NoPanic.normal ?_
        clear HB9 HT9 HC9 q1 q2 q3 q4 HT hHeld
        have HC5 : w5.cell? ⟨b2, o2 + m, none⟩ = some (.int .i64 x) := KC.out _ HB5
        by_cases hxg : x = g
        · rw [if_pos hxg] at HXW
          go_wp2_with fail
          go_roundw
          case rel => exact ⟨m, by omega, by go_num, HB5, by rw [HXD.out, HXW.out]; exact HT5⟩
          case measure => simp [intOf] <;> omega
        · rw [if_neg hxg] at HXW
          have HO : Hid (TW wp.heap.size u9 (.slice (some ⟨g5, 0, none⟩) (A.length + 2) c5) C (A ++ [x, x]) w5) := HT5.swap
          clear HT5
          go_wp2_with (first
            | go_skip
            | (refine wl_app1X lyI 3 24 (.int .i64 0) 8 undIs infoI3 rfl (by decide) rfl _ _ rfl wp.heap.size C.length C rfl x u9 rfl HB5.size HO.out.a w5.heap.size rfl rfl (by omega) ?_ _ rfl rfl; intro g7 c7 w7 q1 q2 q3 q4))
          have HB7 : Bl wp w7 := HB5.grown q2 HB5.size (fun k hk => (owns_ge HO.out.a hk).1)
          have HT7 : TW wp.heap.size (.slice (some ⟨g7, 0, none⟩) (C ++ [x]).length c7) (.slice (some ⟨g5, 0, none⟩) (A.length + 2) c5) (C ++ [x]) (A ++ [x, x]) w7 := HO.out.app (by rw [List.length_append]; exact q1) q2 q3
          rw [List.length_append] at HT7
          go_roundw
          case rel => exact ⟨m, by omega, by go_num, HB7, by rw [HXD.out, HXW.out]; exact HT7.swap⟩
          case measure => simp [intOf] <;> omega
      · obtain rfl : k = 0 := by omega
        have e0 : ((0 : Nat) : Int) - 1 = -1 := rfl
        rw [e0]
        clear hlt hk e0
        have HT : Hid (TW wp.heap.size u8 u9 (bkD l 0) (bkW g l 0) wr) := ht
        obtain ⟨a8, c8, h8, hr8⟩ := owns_rs lyI ht.a
        obtain ⟨a9, c9, h9, hr9⟩ := owns_rs lyI ht.c
        subst h8
        subst h9
        have hl8 := bkD_len l 0
        have hl9 := bkW_len g l 0
        have HK4 : Hid (KS w0 [(a8, bkD l 0), (a9, bkW g l 0), (a1, out), (a, l)] wr) := ((HKp.out.bl HB).add hr9).add hr8
        have HBa : Bl wr (wr.alloc (.cells #[] 3)) := (Bl.refl wr).alloc _
        have HOa : (wr.alloc (.cells #[] 3)).ownsRow wr.heap.size 3 1 (.slice (some ⟨wr.heap.size, 0, none⟩) 0 0) 0 [] := own_emptyR wr 3 1
        clear ht hr8 hr9 HB HKp HT
        generalize hwq : wr = wq at *
        clear hwq
        have HIN : Hid (∀ (k : Nat) (y : Int), out[k]? = some y → 1 ≤ y ∧ y ≤ 6 ∧ y ∈ l) := fun k y h => (HW.mem y).1 (List.mem_of_getElem? h)
        have HND : Hid (∀ (k j : Nat) (y z : Int), j < k → out[k]? = some y → out[j]? = some z → z ≠ y) := fun k j y z hjk h1 h2 => by
          obtain ⟨hk', e1⟩ := List.getElem?_eq_some_iff.1 h1
          obtain ⟨hj', e2⟩ := List.getElem?_eq_some_iff.1 h2
          have := List.pairwise_iff_getElem.1 HW.nodup j k hj' hk' hjk
          rwa [e1, e2] at this
        have HBQ : Hid (∀ U, Bl wq U → KS w0 [(a8, bkD l 0), (a9, bkW g l 0), (a1, out), (a, l)] U) := fun U h => HK4.out.bl h
        go_wp2_with fail
        go_loopw [11, 12, 13, 14, 15] (fun u11 u12 _ _ _ wr => ∃ k : Nat, k ≤ out.length ∧ u12 = .int .i64 (k : Int) ∧ Bl wq wr ∧ wr.ownsRow wq.heap.size 3 1 u11 (RI.wo g (out.take k)).length (flG lyI (RI.wo g (out.take k)))) (fun _ u12 _ _ _ _ => out.length - (intOf u12).toNat)
        case atStart => exact ⟨0, by omega, rfl, HBa, HOa⟩
        case round =>
          clear HBa HOa
          obtain ⟨k, hk, rfl, HB, ho⟩ := hrel
          by_cases hlt : k < out.length
          · obtain ⟨y, hy⟩ : ∃ y, out[k]? = some y := ⟨out[k], List.getElem?_eq_getElem hlt⟩
            obtain ⟨hy1, hy6, hyl⟩ := HIN.out k y hy
            have HX := hidI (wo_take_succ (g := g) hy)
            obtain ⟨b1, o1, hae, hb1, hcell⟩ := ((HBQ.out _ HB).2 (a1, out) (by simp)).at1 hy
            have HY : Hid (out[k]? = some y) := hy
            have HYL : Hid (y ∈ l) := hyl
            have hal : (RI.wo g (out.take k)).length ≤ 6 := Nat.le_trans (wo_len _ _) (by rw [List.length_take]; omega)
            have HO : Hid (wr.ownsRow wq.heap.size 3 1 u11 (RI.wo g (out.take k)).length (flG lyI (RI.wo g (out.take k)))) := ho
            have HBh : Hid (Bl wq wr) := HB
            clear ho hy HB hyl
            subst hae
            generalize RI.wo g (out.take k) = L at *
            generalize hwr : wr = wo at *
            clear hwr
            go_wp2_with fail
            go_loopw [13, 14] (fun u13 u14 wr => ∃ j : Nat, j ≤ l.length ∧ u14 = .int .i64 (j : Int) ∧ u13 = .bool (decide (y ∈ l.take j)) ∧ Bl wo wr) (fun _ u14 _ => l.length - (intOf u14).toNat)
            case atStart => exact ⟨0, by omega, rfl, rfl, Bl.refl _⟩
            case round =>
              obtain ⟨j, hj, rfl, rfl, hBx⟩ := hrel
              have HBx : Hid (Bl wo wr) := hBx
              clear hBx
              by_cases hjl : j < l.length
              · obtain ⟨x, hx⟩ : ∃ x, l[j]? = some x := ⟨l[j], List.getElem?_eq_getElem hjl⟩
                obtain ⟨b2, o2, hae, hb2, hcx⟩ := ((HBQ.out _ HBh.out).2 (a, l) (by simp)).at1 hx
                have KD : Hid (∀ U, Bl wo U → U.cell? ⟨b2, o2 + j, none⟩ = some (.int .i64 x) ∧ U.cell? ⟨b1, o1 + k, none⟩ = some (.int .i64 y)) := fun U hU => ⟨by rw [hU.cell hb2]; exact hcx, by rw [hU.cell hb1]; exact hcell⟩
                have HS := hidI (has_succ (y := y) hx)
                clear hcell hcx hx HX HO
                subst hae
                generalize hq : decide (y ∈ l.take j) = q at *
                cases q
                · rw [Bool.false_or] at HS
                  go_upto_region 24 with fail
                  refine wp_region_noPanic ?_
                  refine wp_region_held_drew (S := fun U => U.cell? ⟨b2, o2 + j, none⟩ = some (.int .i64 x) ∧ U.cell? ⟨b1, o1 + k, none⟩ = some (.int .i64 y)) (by kernel_rfl) (KD.out _ (HBx.out.drewN 1)) (fun hHeld => ?_)
                  refine wpAnyH_take (i := 0) rfl (by kernel_rfl) (by kernel_rfl) (by kernel_rfl) (fun _ _ _ h => h) (yi_move (by kernel_rfl) rfl rfl) (by assumption) ?_
                  simp only [Act.put, List.getElem_toArray, List.getElem_cons_succ, List.getElem_cons_zero, List.setIfInBounds_toArray, List.set_cons_zero, List.set_cons_succ]
                  refine wpAnyH_take (i := 1) rfl (by kernel_rfl) (by kernel_rfl) (by kernel_rfl) (fun _ _ _ h => h) (yi_move (by kernel_rfl) rfl rfl) (by assumption) ?_
                  simp only [Act.put, List.getElem_toArray, List.getElem_cons_succ, List.getElem_cons_zero, List.setIfInBounds_toArray, List.set_cons_zero, List.set_cons_succ]
                  refine wpAnyH_take (i := 2) rfl (by kernel_rfl) (by kernel_rfl) (by kernel_rfl) (fun _ _ _ h => h) (yi_move (by kernel_rfl) rfl rfl) (by assumption) ?_
                  simp only [Act.put, List.getElem_toArray, List.getElem_cons_succ, List.getElem_cons_zero, List.setIfInBounds_toArray, List.set_cons_zero, List.set_cons_succ]
                  refine wpAnyH_take (i := 3) rfl (by kernel_rfl) (by kernel_rfl) (by kernel_rfl) (fun _ _ _ h => h) (yi_move (by kernel_rfl) rfl rfl) (by assumption) ?_
                  simp only [Act.put, List.getElem_toArray, List.getElem_cons_succ, List.getElem_cons_zero, List.setIfInBounds_toArray, List.set_cons_zero, List.set_cons_succ]
                  refine wpAnyH_take (i := 4) (v := ?_) rfl (by kernel_rfl) (by kernel_rfl) (by kernel_rfl) (fun _ _ _ h => h) (Or.inl ⟨by kernel_rfl, ?_⟩) (by assumption) ?_
                  rotate_left
                  · (intro w hSw; (try dsimp only at hSw); go_simp; (try with_reducible rfl))
                  simp only [Act.put, List.getElem_toArray, List.getElem_cons_succ, List.getElem_cons_zero, List.setIfInBounds_toArray, List.set_cons_zero, List.set_cons_succ]
                  refine wpAnyH_take (i := 5) (v := ?_) rfl (by kernel_rfl) (by kernel_rfl) (by kernel_rfl) (fun _ _ _ h => h) (Or.inl ⟨by kernel_rfl, ?_⟩) (by assumption) ?_
                  rotate_left
                  · (intro w hSw; (try dsimp only at hSw); go_simp; (try with_reducible rfl))
                  simp only [Act.put, List.getElem_toArray, List.getElem_cons_succ, List.getElem_cons_zero, List.setIfInBounds_toArray, List.set_cons_zero, List.set_cons_succ]
                  refine wpAnyH_take (i := 6) rfl (by kernel_rfl) (by kernel_rfl) (by kernel_rfl) (fun _ _ _ h => h) (yi_move (by kernel_rfl) rfl rfl) (by assumption) ?_
                  simp only [Act.put, List.getElem_toArray, List.getElem_cons_succ, List.getElem_cons_zero, List.setIfInBounds_toArray, List.set_cons_zero, List.set_cons_succ]
                  refine wpAnyH_take (i := 7) rfl (by kernel_rfl) (by kernel_rfl) (by kernel_rfl) (fun _ _ _ h => h) (yi_move (by kernel_rfl) rfl rfl) (by assumption) ?_
                  simp only [Act.put, List.getElem_toArray, List.getElem_cons_succ, List.getElem_cons_zero, List.setIfInBounds_toArray, List.set_cons_zero, List.set_cons_succ]
                  refine wpAnyH_take (i := 8) (v := ?_) rfl (by kernel_rfl) (by kernel_rfl) (by kernel_rfl) (fun _ _ _ h => h) (Or.inl ⟨by kernel_rfl, ?_⟩) (by assumption) ?_
                  rotate_left
                  · (intro w hSw; (try dsimp only at hSw); go_simp; (try with_reducible rfl))
                  simp only [Act.put, List.getElem_toArray, List.getElem_cons_succ, List.getElem_cons_zero, List.setIfInBounds_toArray, List.set_cons_zero, List.set_cons_succ]
                  refine wpAnyH_take (i := 9) (v := ?_) rfl (by kernel_rfl) (by kernel_rfl) (by kernel_rfl) (fun _ _ _ h => h) (Or.inl ⟨by kernel_rfl, ?_⟩) (by assumption) ?_
                  rotate_left
                  · (intro w hSw; (try dsimp only at hSw); go_simp; (try with_reducible rfl))
                  simp only [Act.put, List.getElem_toArray, List.getElem_cons_succ, List.getElem_cons_zero, List.setIfInBounds_toArray, List.set_cons_zero, List.set_cons_succ]
                  refine wpAnyH_take (i := 10) (v := ?_) rfl (by kernel_rfl) (by kernel_rfl) (by kernel_rfl) (fun _ _ _ h => h) (Or.inl ⟨by kernel_rfl, ?_⟩) (by assumption) ?_
                  rotate_left
                  · (intro w hSw; (try dsimp only at hSw); go_simp; (try with_reducible rfl))
                  simp only [Act.put, List.getElem_toArray, List.getElem_cons_succ, List.getElem_cons_zero, List.setIfInBounds_toArray, List.set_cons_zero, List.set_cons_succ]
                  refine wpAnyH_take (i := 11) (v := ?_) rfl (by kernel_rfl) (by kernel_rfl) (by kernel_rfl) (fun _ _ _ h => h) (Or.inl ⟨by kernel_rfl, ?_⟩) (by assumption) ?_
                  rotate_left
                  · (intro w hSw; (try dsimp only at hSw); go_simp; (try with_reducible rfl))
                  simp only [Act.put, List.getElem_toArray, List.getElem_cons_succ, List.getElem_cons_zero, List.setIfInBounds_toArray, List.set_cons_zero, List.set_cons_succ]
                  refine wpAnyH_take (i := 12) (v := .bool (x == y)) rfl (by kernel_rfl) (by kernel_rfl) (by kernel_rfl) (fun _ _ _ h => h) (yi_assign (by kernel_rfl) rfl (by rfl)) (by assumption) ?_
                  simp only [Act.put, List.getElem_toArray, List.getElem_cons_succ, List.getElem_cons_zero, List.setIfInBounds_toArray, List.set_cons_zero, List.set_cons_succ]
                  refine wpAnyH_done (by kernel_rfl) ?_ _
                  refine NoPanic.normal ?_
                  go_wp2_with fail
                  go_roundw
                  case rel => exact ⟨j + 1, by omega, by go_num, by rw [HS.out], HBx.out.drewN 1⟩
                  case measure => simp [intOf] <;> omega
                · rw [Bool.true_or] at HS
                  go_upto_region 24 with fail
                  refine wp_region_noPanic ?_
                  refine wp_region_held_drew (S := fun U => U.cell? ⟨b2, o2 + j, none⟩ = some (.int .i64 x) ∧ U.cell? ⟨b1, o1 + k, none⟩ = some (.int .i64 y)) (by kernel_rfl) (KD.out _ (HBx.out.drewN 1)) (fun hHeld => ?_)
                  refine wpAnyH_take (i := 0) rfl (by kernel_rfl) (by kernel_rfl) (by kernel_rfl) (fun _ _ _ h => h) (yi_move (by kernel_rfl) rfl rfl) (by assumption) ?_
                  simp only [Act.put, List.getElem_toArray, List.getElem_cons_succ, List.getElem_cons_zero, List.setIfInBounds_toArray, List.set_cons_zero, List.set_cons_succ]
                  refine wpAnyH_take (i := 1) rfl (by kernel_rfl) (by kernel_rfl) (by kernel_rfl) (fun _ _ _ h => h) (yi_move (by kernel_rfl) rfl rfl) (by assumption) ?_
                  simp only [Act.put, List.getElem_toArray, List.getElem_cons_succ, List.getElem_cons_zero, List.setIfInBounds_toArray, List.set_cons_zero, List.set_cons_succ]
                  refine wpAnyH_take (i := 2) (v := undef) rfl (by kernel_rfl) (by kernel_rfl) (by kernel_rfl) (fun _ _ _ h => h) (Or.inr ⟨by kernel_rfl, rfl⟩) (by assumption) ?_
                  simp only [Act.put, List.getElem_toArray, List.getElem_cons_succ, List.getElem_cons_zero, List.setIfInBounds_toArray, List.set_cons_zero, List.set_cons_succ]
                  refine wpAnyH_take (i := 3) (v := undef) rfl (by kernel_rfl) (by kernel_rfl) (by kernel_rfl) (fun _ _ _ h => h) (Or.inr ⟨by kernel_rfl, rfl⟩) (by assumption) ?_
                  simp only [Act.put, List.getElem_toArray, List.getElem_cons_succ, List.getElem_cons_zero, List.setIfInBounds_toArray, List.set_cons_zero, List.set_cons_succ]
                  refine wpAnyH_take (i := 4) (v := undef) rfl (by kernel_rfl) (by kernel_rfl) (by kernel_rfl) (fun _ _ _ h => h) (Or.inr ⟨by kernel_rfl, rfl⟩) (by assumption) ?_
                  simp only [Act.put, List.getElem_toArray, List.getElem_cons_succ, List.getElem_cons_zero, List.setIfInBounds_toArray, List.set_cons_zero, List.set_cons_succ]
                  refine wpAnyH_take (i := 5) (v := undef) rfl (by kernel_rfl) (by kernel_rfl) (by kernel_rfl) (fun _ _ _ h => h) (Or.inr ⟨by kernel_rfl, rfl⟩) (by assumption) ?_
                  simp only [Act.put, List.getElem_toArray, List.getElem_cons_succ, List.getElem_cons_zero, List.setIfInBounds_toArray, List.set_cons_zero, List.set_cons_succ]
                  refine wpAnyH_take (i := 6) (v := undef) rfl (by kernel_rfl) (by kernel_rfl) (by kernel_rfl) (fun _ _ _ h => h) (Or.inr ⟨by kernel_rfl, rfl⟩) (by assumption) ?_
                  simp only [Act.put, List.getElem_toArray, List.getElem_cons_succ, List.getElem_cons_zero, List.setIfInBounds_toArray, List.set_cons_zero, List.set_cons_succ]
                  refine wpAnyH_take (i := 7) (v := undef) rfl (by kernel_rfl) (by kernel_rfl) (by kernel_rfl) (fun _ _ _ h => h) (Or.inr ⟨by kernel_rfl, rfl⟩) (by assumption) ?_
                  simp only [Act.put, List.getElem_toArray, List.getElem_cons_succ, List.getElem_cons_zero, List.setIfInBounds_toArray, List.set_cons_zero, List.set_cons_succ]
                  refine wpAnyH_take (i := 8) (v := undef) rfl (by kernel_rfl) (by kernel_rfl) (by kernel_rfl) (fun _ _ _ h => h) (Or.inr ⟨by kernel_rfl, rfl⟩) (by assumption) ?_
                  simp only [Act.put, List.getElem_toArray, List.getElem_cons_succ, List.getElem_cons_zero, List.setIfInBounds_toArray, List.set_cons_zero, List.set_cons_succ]
                  refine wpAnyH_take (i := 9) (v := undef) rfl (by kernel_rfl) (by kernel_rfl) (by kernel_rfl) (fun _ _ _ h => h) (Or.inr ⟨by kernel_rfl, rfl⟩) (by assumption) ?_
                  simp only [Act.put, List.getElem_toArray, List.getElem_cons_succ, List.getElem_cons_zero, List.setIfInBounds_toArray, List.set_cons_zero, List.set_cons_succ]
                  refine wpAnyH_take (i := 10) (v := undef) rfl (by kernel_rfl) (by kernel_rfl) (by kernel_rfl) (fun _ _ _ h => h) (Or.inr ⟨by kernel_rfl, rfl⟩) (by assumption) ?_
                  simp only [Act.put, List.getElem_toArray, List.getElem_cons_succ, List.getElem_cons_zero, List.setIfInBounds_toArray, List.set_cons_zero, List.set_cons_succ]
                  refine wpAnyH_take (i := 11) (v := ?_) rfl (by kernel_rfl) (by kernel_rfl) (by kernel_rfl) (fun _ _ _ h => h) (Or.inl ⟨by kernel_rfl, ?_⟩) (by assumption) ?_
                  rotate_left
                  · (intro w hSw; (try dsimp only at hSw); go_simp; (try with_reducible rfl))
                  simp only [Act.put, List.getElem_toArray, List.getElem_cons_succ, List.getElem_cons_zero, List.setIfInBounds_toArray, List.set_cons_zero, List.set_cons_succ]
                  refine wpAnyH_take (i := 12) (v := .bool true) rfl (by kernel_rfl) (by kernel_rfl) (by kernel_rfl) (fun _ _ _ h => h) (yi_assign (by kernel_rfl) rfl (by rfl)) (by assumption) ?_
                  simp only [Act.put, List.getElem_toArray, List.getElem_cons_succ, List.getElem_cons_zero, List.setIfInBounds_toArray, List.set_cons_zero, List.set_cons_succ]
                  refine wpAnyH_done (by kernel_rfl) ?_ _
                  refine NoPanic.normal ?_
                  go_wp2_with fail
                  go_roundw
                  case rel => exact ⟨j + 1, by omega, by go_num, by rw [HS.out], HBx.out.drewN 1⟩
                  case measure => simp [intOf] <;> omega
              · obtain rfl : j = l.length := by omega
                have hq : decide (y ∈ l.take l.length) = true := by rw [List.take_length]; exact decide_eq_true HYL.out
                rw [hq]
                clear hq hjl hj
                have HBw : Hid (Bl wo wr) := HBx.out
                clear HBx
                generalize hwr : wr = wu at *
                clear hwr
                go_wp2_with fail
                go_loopw [13, 15] (fun u13 u15 wr => ∃ j : Nat, j ≤ k ∧ u15 = .int .i64 (j : Int) ∧ u13 = .bool true ∧ Bl wo wr) (fun _ u15 _ => k - (intOf u15).toNat)
                case atStart => exact ⟨0, by omega, rfl, rfl, HBw.out⟩
                case round =>
                  clear HBw
                  obtain ⟨j, hj, rfl, rfl, hBx⟩ := hrel
                  have HBx : Hid (Bl wo wr) := hBx
                  clear hBx
                  by_cases hjk : j < k
                  · obtain ⟨z, hz⟩ : ∃ z, out[j]? = some z := ⟨out[j], List.getElem?_eq_getElem (by omega)⟩
                    obtain ⟨b3, o3, hae, hb3, hcz⟩ := ((HBQ.out _ HBh.out).2 (some ⟨b1, o1, none⟩, out) (by simp)).at1 hz
                    cases hae
                    have hjo : j < out.length := by omega
                    have hzy : z ≠ y := HND.out k j y z hjk HY.out hz
                    have hne : (z != y) = true := by simp [hzy]
                    have KD : Hid (∀ U, Bl wo U → U.cell? ⟨b1, o1 + j, none⟩ = some (.int .i64 z) ∧ U.cell? ⟨b1, o1 + k, none⟩ = some (.int .i64 y)) := fun U hU => ⟨by rw [hU.cell hb3]; exact hcz, by rw [hU.cell hb1]; exact hcell⟩
                    clear hcell hcz hz HX HO
                    go_upto_region 28 with fail
                    refine wp_region_noPanic ?_
                    refine wp_region_held_drew (S := fun U => U.cell? ⟨b1, o1 + j, none⟩ = some (.int .i64 z) ∧ U.cell? ⟨b1, o1 + k, none⟩ = some (.int .i64 y)) (by kernel_rfl) (KD.out _ (HBx.out.drewN 1)) (fun hHeld => ?_)
                    refine wpAnyH_take (i := 0) rfl (by kernel_rfl) (by kernel_rfl) (by kernel_rfl) (fun _ _ _ h => h) (yi_move (by kernel_rfl) rfl rfl) (by assumption) ?_
                    simp only [Act.put, List.getElem_toArray, List.getElem_cons_succ, List.getElem_cons_zero, List.setIfInBounds_toArray, List.set_cons_zero, List.set_cons_succ]
                    refine wpAnyH_take (i := 1) rfl (by kernel_rfl) (by kernel_rfl) (by kernel_rfl) (fun _ _ _ h => h) (yi_move (by kernel_rfl) rfl rfl) (by assumption) ?_
                    simp only [Act.put, List.getElem_toArray, List.getElem_cons_succ, List.getElem_cons_zero, List.setIfInBounds_toArray, List.set_cons_zero, List.set_cons_succ]
                    refine wpAnyH_take (i := 2) rfl (by kernel_rfl) (by kernel_rfl) (by kernel_rfl) (fun _ _ _ h => h) (yi_move (by kernel_rfl) rfl rfl) (by assumption) ?_
                    simp only [Act.put, List.getElem_toArray, List.getElem_cons_succ, List.getElem_cons_zero, List.setIfInBounds_toArray, List.set_cons_zero, List.set_cons_succ]
                    refine wpAnyH_take (i := 3) rfl (by kernel_rfl) (by kernel_rfl) (by kernel_rfl) (fun _ _ _ h => h) (yi_move (by kernel_rfl) rfl rfl) (by assumption) ?_
                    simp only [Act.put, List.getElem_toArray, List.getElem_cons_succ, List.getElem_cons_zero, List.setIfInBounds_toArray, List.set_cons_zero, List.set_cons_succ]
                    refine wpAnyH_take (i := 4) (v := ?_) rfl (by kernel_rfl) (by kernel_rfl) (by kernel_rfl) (fun _ _ _ h => h) (Or.inl ⟨by kernel_rfl, ?_⟩) (by assumption) ?_
                    rotate_left
                    · (intro w hSw; (try dsimp only at hSw); go_simp; (try with_reducible rfl))
                    simp only [Act.put, List.getElem_toArray, List.getElem_cons_succ, List.getElem_cons_zero, List.setIfInBounds_toArray, List.set_cons_zero, List.set_cons_succ]
                    refine wpAnyH_take (i := 5) (v := ?_) rfl (by kernel_rfl) (by kernel_rfl) (by kernel_rfl) (fun _ _ _ h => h) (Or.inl ⟨by kernel_rfl, ?_⟩) (by assumption) ?_
                    rotate_left
                    · (intro w hSw; (try dsimp only at hSw); go_simp; (try with_reducible rfl))
                    simp only [Act.put, List.getElem_toArray, List.getElem_cons_succ, List.getElem_cons_zero, List.setIfInBounds_toArray, List.set_cons_zero, List.set_cons_succ]
                    refine wpAnyH_take (i := 6) rfl (by kernel_rfl) (by kernel_rfl) (by kernel_rfl) (fun _ _ _ h => h) (yi_move (by kernel_rfl) rfl rfl) (by assumption) ?_
                    simp only [Act.put, List.getElem_toArray, List.getElem_cons_succ, List.getElem_cons_zero, List.setIfInBounds_toArray, List.set_cons_zero, List.set_cons_succ]
                    refine wpAnyH_take (i := 7) rfl (by kernel_rfl) (by kernel_rfl) (by kernel_rfl) (fun _ _ _ h => h) (yi_move (by kernel_rfl) rfl rfl) (by assumption) ?_
                    simp only [Act.put, List.getElem_toArray, List.getElem_cons_succ, List.getElem_cons_zero, List.setIfInBounds_toArray, List.set_cons_zero, List.set_cons_succ]
                    refine wpAnyH_take (i := 8) (v := ?_) rfl (by kernel_rfl) (by kernel_rfl) (by kernel_rfl) (fun _ _ _ h => h) (Or.inl ⟨by kernel_rfl, ?_⟩) (by assumption) ?_
                    rotate_left
                    · (intro w hSw; (try dsimp only at hSw); go_simp; (try with_reducible rfl))
                    simp only [Act.put, List.getElem_toArray, List.getElem_cons_succ, List.getElem_cons_zero, List.setIfInBounds_toArray, List.set_cons_zero, List.set_cons_succ]
                    refine wpAnyH_take (i := 9) (v := ?_) rfl (by kernel_rfl) (by kernel_rfl) (by kernel_rfl) (fun _ _ _ h => h) (Or.inl ⟨by kernel_rfl, ?_⟩) (by assumption) ?_
                    rotate_left
                    · (intro w hSw; (try dsimp only at hSw); go_simp; (try with_reducible rfl))
                    simp only [Act.put, List.getElem_toArray, List.getElem_cons_succ, List.getElem_cons_zero, List.setIfInBounds_toArray, List.set_cons_zero, List.set_cons_succ]
                    refine wpAnyH_take (i := 10) (v := ?_) rfl (by kernel_rfl) (by kernel_rfl) (by kernel_rfl) (fun _ _ _ h => h) (Or.inl ⟨by kernel_rfl, ?_⟩) (by assumption) ?_
                    rotate_left
                    · (intro w hSw; (try dsimp only at hSw); go_simp; (try with_reducible rfl))
                    simp only [Act.put, List.getElem_toArray, List.getElem_cons_succ, List.getElem_cons_zero, List.setIfInBounds_toArray, List.set_cons_zero, List.set_cons_succ]
                    refine wpAnyH_take (i := 11) (v := ?_) rfl (by kernel_rfl) (by kernel_rfl) (by kernel_rfl) (fun _ _ _ h => h) (Or.inl ⟨by kernel_rfl, ?_⟩) (by assumption) ?_
                    rotate_left
                    · (intro w hSw; (try dsimp only at hSw); go_simp; (try with_reducible rfl))
                    simp only [Act.put, List.getElem_toArray, List.getElem_cons_succ, List.getElem_cons_zero, List.setIfInBounds_toArray, List.set_cons_zero, List.set_cons_succ]
                    refine wpAnyH_take (i := 12) (v := .bool true) rfl (by kernel_rfl) (by kernel_rfl) (by kernel_rfl) (fun _ _ _ h => h) (yi_assign (by kernel_rfl) rfl (by rfl)) (by assumption) ?_
                    simp only [Act.put, List.getElem_toArray, List.getElem_cons_succ, List.getElem_cons_zero, List.setIfInBounds_toArray, List.set_cons_zero, List.set_cons_succ]
                    refine wpAnyH_done (by kernel_rfl) ?_ _
                    refine NoPanic.normal ?_
                    go_wp2_with fail
                    go_roundw
                    case rel => exact ⟨j + 1, by omega, by go_num, rfl, HBx.out.drewN 1⟩
                    case measure => simp [intOf] <;> omega
                  · obtain rfl : j = k := by omega
                    have HB5 : Hid (Bl wo wr) := HBx.out
                    have HC5 : wr.cell? ⟨b1, o1 + j, none⟩ = some (.int .i64 y) := by rw [HBx.out.cell hb1]; exact hcell
                    have HO5 : Hid (wr.ownsRow wq.heap.size 3 1 u11 L.length (flG lyI L)) := ownsRow_bl HO.out HBx.out
                    have HB6 : Hid (Bl wq wr) := HBh.out.step HBx.out
                    clear hcell HBx hjk hj hb1 HBh HO HYL
                    by_cases hxg : y = g
                    · rw [if_pos hxg] at HX
                      go_wp2_with fail
                      go_roundw
                      case rel => exact ⟨j + 1, by omega, by go_num, HB6.out, by rw [HX.out]; exact HO5.out⟩
                      case measure => simp [intOf] <;> omega
                    · rw [if_neg hxg] at HX
                      go_wp2_with (first
                        | go_skip
                        | (refine wl_app1M lyI 3 24 (.int .i64 0) 8 undIs infoI3 rfl (by decide) rfl _ _ rfl L.length L rfl y u11 rfl HB6.out HO5.out wr.heap.size rfl rfl (by omega) ?_ _ rfl rfl; intro a' c' w5 g1 g2 g3))
                      have z1 : w5.ownsRow wq.heap.size 3 1 (.slice a' (L.length + 1) c') (RI.wo g (out.take (j + 1))).length (flG lyI (RI.wo g (out.take (j + 1)))) := by
                        rw [HX.out, List.length_append]; exact g1
                      go_roundw
                      case rel => exact ⟨j + 1, by omega, by go_num, g2, z1⟩
                      case measure => simp [intOf] <;> omega
          · obtain rfl : k = out.length := by omega
            rw [List.take_length] at ho
            obtain ⟨a11, c11, h11, hr11⟩ := owns_rs lyI ho
            subst h11
            have hwl := wo_len g out
            have HK5 : Hid (KS w0 [(a11, RI.wo g out), (a8, bkD l 0), (a9, bkW g l 0), (a1, out), (a, l)] wr) := (HBQ.out _ HB).add hr11
            have HMEM : Hid (∀ x : Int, 1 ≤ x → x ≤ 6 → x ∈ l → x ∈ out) := fun x h1 h2 h3 => (HW.mem x).2 ⟨h1, h2, h3⟩
            clear ho hr11 HB HBQ HIN HND hlt hk HK4
            generalize hwr : wr = wz at *
            clear hwr
            go_wp2_with fail
            go_loopw [16, 17, 18] (fun u16 _ _ wr => ∃ k : Nat, k ≤ l.length ∧ u16 = .int .i64 (k : Int) ∧ Bl wz wr) (fun u16 _ _ _ => l.length - (intOf u16).toNat)
            case atStart => exact ⟨0, by omega, rfl, Bl.refl _⟩
            case round =>
              obtain ⟨k, hk, rfl, hB⟩ := hrel
              have HBh : Hid (Bl wz wr) := hB
              clear hB
              by_cases hlt : k < l.length
              · obtain ⟨x, hx⟩ : ∃ x, l[k]? = some x := ⟨l[k], List.getElem?_eq_getElem hlt⟩
                obtain ⟨b2, o2, hae, hb2, hcx⟩ := ((HK5.out.bl HBh.out).2 (a, l) (by simp)).at1 hx
                have HXL : Hid (x ∈ l) := List.mem_of_getElem? hx
                clear hx
                subst hae
                obtain ⟨q0, hq0⟩ : ∃ q0, q0 = (decide (x < 1) || decide (6 < x)) := ⟨_, rfl⟩
                go_upto_region 36 with fail
                go_cut [17, 138, 139, 140, 141, 142, 143, 144, 145, 146] (fun s17 s138 s139 s140 s141 s142 s143 s144 s145 s146 wx => s17 = .bool q0 ∧ wr = wx)
                case first =>
                  by_cases h1 : x < 1
                  · have : q0 = true := by rw [hq0]; simp [h1]
                    subst this
                    clear hq0
                    go_wp2_with fail
                    go_meet
                    exact ⟨rfl, rfl⟩
                  · by_cases h6 : 6 < x
                    · have : q0 = true := by rw [hq0]; simp [h6]
                      subst this
                      clear hq0
                      go_wp2_with fail
                      go_meet
                      exact ⟨rfl, rfl⟩
                    · have : q0 = false := by rw [hq0]; simp [h1, h6]
                      subst this
                      clear hq0
                      go_wp2_with fail
                      go_meet
                      exact ⟨rfl, rfl⟩
                case rest =>
                  obtain ⟨rfl, rfl⟩ := hcut
                  have HQ : Hid ((q0 || decide (x ∈ out)) = true) := by
                    show _ = _
                    rw [hq0]
                    by_cases h1 : x < 1
                    · simp [h1]
                    · by_cases h6 : 6 < x
                      · simp [h6]
                      · have := HMEM.out x (by omega) (by omega) HXL.out
                        simp [this]
                  have HB3 := hidI (HK5.out.bl HBh.out)
                  clear hq0
                  generalize hwr : wr = wv at *
                  clear hwr
                  go_wp2_with fail
                  go_loopw [17, 18] (fun u17 u18 wr => ∃ j : Nat, j ≤ out.length ∧ u18 = .int .i64 (j : Int) ∧ u17 = .bool (q0 || decide (x ∈ out.take j)) ∧ Bl wv wr) (fun _ u18 _ => out.length - (intOf u18).toNat)
                  case atStart => exact ⟨0, by omega, rfl, by simp, Bl.refl _⟩
                  case round =>
                    obtain ⟨j, hj, rfl, rfl, hBx⟩ := hrel
                    have HBx : Hid (Bl wv wr) := hBx
                    clear hBx
                    by_cases hjl : j < out.length
                    · obtain ⟨y, hy⟩ : ∃ y, out[j]? = some y := ⟨out[j], List.getElem?_eq_getElem hjl⟩
                      obtain ⟨b1, o1, hae, hb1, hcy⟩ := (HB3.out.2 (a1, out) (by simp)).at1 hy
                      have KD : Hid (∀ U, Bl wv U → U.cell? ⟨b1, o1 + j, none⟩ = some (.int .i64 y) ∧ U.cell? ⟨b2, o2 + k, none⟩ = some (.int .i64 x)) := fun U hU => ⟨by rw [hU.cell hb1]; exact hcy, by rw [hU.cell hb2]; exact hcx⟩
                      have HS : Hid ((q0 || decide (x ∈ out.take (j + 1))) = ((q0 || decide (x ∈ out.take j)) || (y == x))) := by
                        show _ = _
                        rw [has_succ hy, Bool.or_assoc]
                      clear hcx hcy hy
                      subst hae
                      generalize hq : (q0 || decide (x ∈ out.take j)) = q at *
                      clear hq
                      cases q
                      · rw [Bool.false_or] at HS
                        go_upto_region 40 with fail
                        refine wp_region_noPanic ?_
                        refine wp_region_held_drew (S := fun U => U.cell? ⟨b1, o1 + j, none⟩ = some (.int .i64 y) ∧ U.cell? ⟨b2, o2 + k, none⟩ = some (.int .i64 x)) (by kernel_rfl) (KD.out _ (HBx.out.drewN 1)) (fun hHeld => ?_)
                        refine wpAnyH_take (i := 0) rfl (by kernel_rfl) (by kernel_rfl) (by kernel_rfl) (fun _ _ _ h => h) (yi_move (by kernel_rfl) rfl rfl) (by assumption) ?_
                        simp only [Act.put, List.getElem_toArray, List.getElem_cons_succ, List.getElem_cons_zero, List.setIfInBounds_toArray, List.set_cons_zero, List.set_cons_succ]
                        refine wpAnyH_take (i := 1) rfl (by kernel_rfl) (by kernel_rfl) (by kernel_rfl) (fun _ _ _ h => h) (yi_move (by kernel_rfl) rfl rfl) (by assumption) ?_
                        simp only [Act.put, List.getElem_toArray, List.getElem_cons_succ, List.getElem_cons_zero, List.setIfInBounds_toArray, List.set_cons_zero, List.set_cons_succ]
                        refine wpAnyH_take (i := 2) rfl (by kernel_rfl) (by kernel_rfl) (by kernel_rfl) (fun _ _ _ h => h) (yi_move (by kernel_rfl) rfl rfl) (by assumption) ?_
                        simp only [Act.put, List.getElem_toArray, List.getElem_cons_succ, List.getElem_cons_zero, List.setIfInBounds_toArray, List.set_cons_zero, List.set_cons_succ]
                        refine wpAnyH_take (i := 3) rfl (by kernel_rfl) (by kernel_rfl) (by kernel_rfl) (fun _ _ _ h => h) (yi_move (by kernel_rfl) rfl rfl) (by assumption) ?_
                        simp only [Act.put, List.getElem_toArray, List.getElem_cons_succ, List.getElem_cons_zero, List.setIfInBounds_toArray, List.set_cons_zero, List.set_cons_succ]
                        refine wpAnyH_take (i := 4) (v := ?_) rfl (by kernel_rfl) (by kernel_rfl) (by kernel_rfl) (fun _ _ _ h => h) (Or.inl ⟨by kernel_rfl, ?_⟩) (by assumption) ?_
                        rotate_left
                        · (intro w hSw; (try dsimp only at hSw); go_simp; (try with_reducible rfl))
                        simp only [Act.put, List.getElem_toArray, List.getElem_cons_succ, List.getElem_cons_zero, List.setIfInBounds_toArray, List.set_cons_zero, List.set_cons_succ]
                        refine wpAnyH_take (i := 5) (v := ?_) rfl (by kernel_rfl) (by kernel_rfl) (by kernel_rfl) (fun _ _ _ h => h) (Or.inl ⟨by kernel_rfl, ?_⟩) (by assumption) ?_
                        rotate_left
                        · (intro w hSw; (try dsimp only at hSw); go_simp; (try with_reducible rfl))
                        simp only [Act.put, List.getElem_toArray, List.getElem_cons_succ, List.getElem_cons_zero, List.setIfInBounds_toArray, List.set_cons_zero, List.set_cons_succ]
                        refine wpAnyH_take (i := 6) rfl (by kernel_rfl) (by kernel_rfl) (by kernel_rfl) (fun _ _ _ h => h) (yi_move (by kernel_rfl) rfl rfl) (by assumption) ?_
                        simp only [Act.put, List.getElem_toArray, List.getElem_cons_succ, List.getElem_cons_zero, List.setIfInBounds_toArray, List.set_cons_zero, List.set_cons_succ]
                        refine wpAnyH_take (i := 7) rfl (by kernel_rfl) (by kernel_rfl) (by kernel_rfl) (fun _ _ _ h => h) (yi_move (by kernel_rfl) rfl rfl) (by assumption) ?_
                        simp only [Act.put, List.getElem_toArray, List.getElem_cons_succ, List.getElem_cons_zero, List.setIfInBounds_toArray, List.set_cons_zero, List.set_cons_succ]
                        refine wpAnyH_take (i := 8) (v := ?_) rfl (by kernel_rfl) (by kernel_rfl) (by kernel_rfl) (fun _ _ _ h => h) (Or.inl ⟨by kernel_rfl, ?_⟩) (by assumption) ?_
                        rotate_left
                        · (intro w hSw; (try dsimp only at hSw); go_simp; (try with_reducible rfl))
                        simp only [Act.put, List.getElem_toArray, List.getElem_cons_succ, List.getElem_cons_zero, List.setIfInBounds_toArray, List.set_cons_zero, List.set_cons_succ]
                        refine wpAnyH_take (i := 9) (v := ?_) rfl (by kernel_rfl) (by kernel_rfl) (by kernel_rfl) (fun _ _ _ h => h) (Or.inl ⟨by kernel_rfl, ?_⟩) (by assumption) ?_
                        rotate_left
                        · (intro w hSw; (try dsimp only at hSw); go_simp; (try with_reducible rfl))
                        simp only [Act.put, List.getElem_toArray, List.getElem_cons_succ, List.getElem_cons_zero, List.setIfInBounds_toArray, List.set_cons_zero, List.set_cons_succ]
                        refine wpAnyH_take (i := 10) (v := ?_) rfl (by kernel_rfl) (by kernel_rfl) (by kernel_rfl) (fun _ _ _ h => h) (Or.inl ⟨by kernel_rfl, ?_⟩) (by assumption) ?_
                        rotate_left
                        · (intro w hSw; (try dsimp only at hSw); go_simp; (try with_reducible rfl))
                        simp only [Act.put, List.getElem_toArray, List.getElem_cons_succ, List.getElem_cons_zero, List.setIfInBounds_toArray, List.set_cons_zero, List.set_cons_succ]
                        refine wpAnyH_take (i := 11) (v := ?_) rfl (by kernel_rfl) (by kernel_rfl) (by kernel_rfl) (fun _ _ _ h => h) (Or.inl ⟨by kernel_rfl, ?_⟩) (by assumption) ?_
                        rotate_left
                        · (intro w hSw; (try dsimp only at hSw); go_simp; (try with_reducible rfl))
                        simp only [Act.put, List.getElem_toArray, List.getElem_cons_succ, List.getElem_cons_zero, List.setIfInBounds_toArray, List.set_cons_zero, List.set_cons_succ]
                        refine wpAnyH_take (i := 12) (v := .bool (y == x)) rfl (by kernel_rfl) (by kernel_rfl) (by kernel_rfl) (fun _ _ _ h => h) (yi_assign (by kernel_rfl) rfl (by rfl)) (by assumption) ?_
                        simp only [Act.put, List.getElem_toArray, List.getElem_cons_succ, List.getElem_cons_zero, List.setIfInBounds_toArray, List.set_cons_zero, List.set_cons_succ]
                        refine wpAnyH_done (by kernel_rfl) ?_ _
                        refine NoPanic.normal ?_
                        go_wp2_with fail
                        go_roundw
                        case rel => exact ⟨j + 1, by omega, by go_num, by rw [HS.out], HBx.out.drewN 1⟩
                        case measure => simp [intOf] <;> omega
                      · rw [Bool.true_or] at HS
                        go_upto_region 40 with fail
                        refine wp_region_noPanic ?_
                        refine wp_region_held_drew (S := fun U => U.cell? ⟨b1, o1 + j, none⟩ = some (.int .i64 y) ∧ U.cell? ⟨b2, o2 + k, none⟩ = some (.int .i64 x)) (by kernel_rfl) (KD.out _ (HBx.out.drewN 1)) (fun hHeld => ?_)
                        refine wpAnyH_take (i := 0) rfl (by kernel_rfl) (by kernel_rfl) (by kernel_rfl) (fun _ _ _ h => h) (yi_move (by kernel_rfl) rfl rfl) (by assumption) ?_
                        simp only [Act.put, List.getElem_toArray, List.getElem_cons_succ, List.getElem_cons_zero, List.setIfInBounds_toArray, List.set_cons_zero, List.set_cons_succ]
                        refine wpAnyH_take (i := 1) rfl (by kernel_rfl) (by kernel_rfl) (by kernel_rfl) (fun _ _ _ h => h) (yi_move (by kernel_rfl) rfl rfl) (by assumption) ?_
                        simp only [Act.put, List.getElem_toArray, List.getElem_cons_succ, List.getElem_cons_zero, List.setIfInBounds_toArray, List.set_cons_zero, List.set_cons_succ]
                        refine wpAnyH_take (i := 2) (v := undef) rfl (by kernel_rfl) (by kernel_rfl) (by kernel_rfl) (fun _ _ _ h => h) (Or.inr ⟨by kernel_rfl, rfl⟩) (by assumption) ?_
                        simp only [Act.put, List.getElem_toArray, List.getElem_cons_succ, List.getElem_cons_zero, List.setIfInBounds_toArray, List.set_cons_zero, List.set_cons_succ]
                        refine wpAnyH_take (i := 3) (v := undef) rfl (by kernel_rfl) (by kernel_rfl) (by kernel_rfl) (fun _ _ _ h => h) (Or.inr ⟨by kernel_rfl, rfl⟩) (by assumption) ?_
                        simp only [Act.put, List.getElem_toArray, List.getElem_cons_succ, List.getElem_cons_zero, List.setIfInBounds_toArray, List.set_cons_zero, List.set_cons_succ]
                        refine wpAnyH_take (i := 4) (v := undef) rfl (by kernel_rfl) (by kernel_rfl) (by kernel_rfl) (fun _ _ _ h => h) (Or.inr ⟨by kernel_rfl, rfl⟩) (by assumption) ?_
                        simp only [Act.put, List.getElem_toArray, List.getElem_cons_succ, List.getElem_cons_zero, List.setIfInBounds_toArray, List.set_cons_zero, List.set_cons_succ]
                        refine wpAnyH_take (i := 5) (v := undef) rfl (by kernel_rfl) (by kernel_rfl) (by kernel_rfl) (fun _ _ _ h => h) (Or.inr ⟨by kernel_rfl, rfl⟩) (by assumption) ?_
                        simp only [Act.put, List.getElem_toArray, List.getElem_cons_succ, List.getElem_cons_zero, List.setIfInBounds_toArray, List.set_cons_zero, List.set_cons_succ]
                        refine wpAnyH_take (i := 6) (v := undef) rfl (by kernel_rfl) (by kernel_rfl) (by kernel_rfl) (fun _ _ _ h => h) (Or.inr ⟨by kernel_rfl, rfl⟩) (by assumption) ?_
                        simp only [Act.put, List.getElem_toArray, List.getElem_cons_succ, List.getElem_cons_zero, List.setIfInBounds_toArray, List.set_cons_zero, List.set_cons_succ]
                        refine wpAnyH_take (i := 7) (v := undef) rfl (by kernel_rfl) (by kernel_rfl) (by kernel_rfl) (fun _ _ _ h => h) (Or.inr ⟨by kernel_rfl, rfl⟩) (by assumption) ?_
                        simp only [Act.put, List.getElem_toArray, List.getElem_cons_succ, List.getElem_cons_zero, List.setIfInBounds_toArray, List.set_cons_zero, List.set_cons_succ]
                        refine wpAnyH_take (i := 8) (v := undef) rfl (by kernel_rfl) (by kernel_rfl) (by kernel_rfl) (fun _ _ _ h => h) (Or.inr ⟨by kernel_rfl, rfl⟩) (by assumption) ?_
                        simp only [Act.put, List.getElem_toArray, List.getElem_cons_succ, List.getElem_cons_zero, List.setIfInBounds_toArray, List.set_cons_zero, List.set_cons_succ]
                        refine wpAnyH_take (i := 9) (v := undef) rfl (by kernel_rfl) (by kernel_rfl) (by kernel_rfl) (fun _ _ _ h => h) (Or.inr ⟨by kernel_rfl, rfl⟩) (by assumption) ?_
                        simp only [Act.put, List.getElem_toArray, List.getElem_cons_succ, List.getElem_cons_zero, List.setIfInBounds_toArray, List.set_cons_zero, List.set_cons_succ]
                        refine wpAnyH_take (i := 10) (v := undef) rfl (by kernel_rfl) (by kernel_rfl) (by kernel_rfl) (fun _ _ _ h => h) (Or.inr ⟨by kernel_rfl, rfl⟩) (by assumption) ?_
                        simp only [Act.put, List.getElem_toArray, List.getElem_cons_succ, List.getElem_cons_zero, List.setIfInBounds_toArray, List.set_cons_zero, List.set_cons_succ]
                        refine wpAnyH_take (i := 11) (v := ?_) rfl (by kernel_rfl) (by kernel_rfl) (by kernel_rfl) (fun _ _ _ h => h) (Or.inl ⟨by kernel_rfl, ?_⟩) (by assumption) ?_
                        rotate_left
                        · (intro w hSw; (try dsimp only at hSw); go_simp; (try with_reducible rfl))
                        simp only [Act.put, List.getElem_toArray, List.getElem_cons_succ, List.getElem_cons_zero, List.setIfInBounds_toArray, List.set_cons_zero, List.set_cons_succ]
                        refine wpAnyH_take (i := 12) (v := .bool true) rfl (by kernel_rfl) (by kernel_rfl) (by kernel_rfl) (fun _ _ _ h => h) (yi_assign (by kernel_rfl) rfl (by rfl)) (by assumption) ?_
                        simp only [Act.put, List.getElem_toArray, List.getElem_cons_succ, List.getElem_cons_zero, List.setIfInBounds_toArray, List.set_cons_zero, List.set_cons_succ]
                        refine wpAnyH_done (by kernel_rfl) ?_ _
                        refine NoPanic.normal ?_
                        go_wp2_with fail
                        go_roundw
                        case rel => exact ⟨j + 1, by omega, by go_num, by rw [HS.out], HBx.out.drewN 1⟩
                        case measure => simp [intOf] <;> omega
                    · obtain rfl : j = out.length := by omega
                      have hq : (q0 || decide (x ∈ out.take out.length)) = true := by rw [List.take_length]; exact HQ.out
                      rw [hq]
                      have HB6 : Hid (Bl wz wr) := HBh.out.step HBx.out
                      clear hq hjl hj HBx HBh hcx
                      go_wp2_with fail
                      go_roundw
                      case rel => exact ⟨k + 1, by omega, by go_num, HB6.out⟩
                      case measure => simp [intOf] <;> omega
              · obtain rfl : k = l.length := by omega
                have HK6 : KS w0 [(a11, RI.wo g out), (a8, bkD l 0), (a9, bkW g l 0), (a1, out), (a, l)] wr := HK5.out.bl HBh.out
                have CW3 : Hid (∀ R U, KS w0 ((a8, bkD l 0) :: R) U → Calls Tryd.prog 13 #[.agg LD.toArray, .slice a8 (bkD l 0).length c8] U fun e w' => ∃ a3 c3, e = .returned (.slice a3 out.length c3) ∧ KS w0 ((a3, out) :: (a8, bkD l 0) :: R) w') := fun R U h => by
                  refine (CW.out _ a8 c8 R U h (by omega)).mono ?_
                  rintro e w' ⟨a3, c3, o3, rfl, h1, h2⟩
                  obtain rfl : o3 = out := h1.uniq HW (fun x _ _ => mem_bkD l x)
                  exact ⟨a3, c3, rfl, h2⟩
                have CW4 : Hid (∀ R U, KS w0 ((a9, bkW g l 0) :: R) U → Calls Tryd.prog 13 #[.agg LD.toArray, .slice a9 (bkW g l 0).length c9] U fun e w' => ∃ a3 c3, e = .returned (.slice a3 (RI.wo g out).length c3) ∧ KS w0 ((a3, RI.wo g out) :: (a9, bkW g l 0) :: R) w') := fun R U h => by
                  refine (CW.out _ a9 c9 R U h (by omega)).mono ?_
                  rintro e w' ⟨a3, c3, o3, rfl, h1, h2⟩
                  obtain rfl : o3 = RI.wo g out := h1.uniq (HW.wo g) (fun x _ _ => mem_bkW g l x)
                  exact ⟨a3, c3, rfl, h2⟩
                have HP : Hid (∀ R1 R2 U, (∀ r ∈ R2, r ∈ R1) → KS w0 R1 U → KS w0 R2 U) := fun R1 R2 U h k => ⟨k.1, fun r hr => k.2 r (h r hr)⟩
                have HK1 : KS w0 [(a8, bkD l 0), (a9, bkW g l 0), (a1, out), (a11, RI.wo g out)] wr := HP.out _ _ _ (by simp) HK6
                have HL : GB w0 wr := HK1.1
                have how : (RI.wo g out).length ≤ 6 := by omega
                clear HK6 HK5 HBh HMEM hlt hk hwl hl8 hl9 CW
                go_wp2_with (first
                  | go_skip
                  | (refine wl_midG (by rfl) 23 _ rfl w.heap.size 0 rfl LD _ (KP.out _ HL) und27 rfl hLi ?_)
                  | (go_at_call 13; refine (CW3.out _ _ HK1).mono ?_; clear CW3 HK1 HL; rintro e w7 ⟨a3, c3, rfl, HK2⟩; have HL := HK2.1)
                  | (go_at_call 12; refine (CI.out _ _ a3 a1 out c3 c1 HK2 (by simp) (by simp) hol).mono ?_; clear HK2 HL; rintro e w8 ⟨rfl, HK3⟩; have HL := HK3.1; have HK4 : KS w0 [(a9, bkW g l 0), (a11, RI.wo g out)] w8 := HP.out _ _ _ (by simp) HK3; clear HK3)
                  | (go_at_call 13; refine (CW4.out _ _ HK4).mono ?_; clear CW4 HK4 HL; rintro e w9 ⟨a4, c4, rfl, HK5⟩; have HL := HK5.1)
                  | (go_at_call 12; refine (CI.out _ _ a4 a11 (RI.wo g out) c4 c11 HK5 (by simp) (by simp) how).mono ?_; clear HK5 HL; rintro e w10 ⟨rfl, HK6⟩))
                go_ret
                exact ⟨rfl, (HG0.out.step HK6.1.b).b⟩
  · have CA : Hid (Calls Tryd.prog 7 #[] (w.alloc (.cells (dg d) 23)) fun e w' => e = .returned (.bool true) ∧ GB w w') := (awake_13 _ hG0.g).mono fun e w' ⟨h1, h2⟩ => ⟨h1, hG0.step h2.b⟩
    have h60' : (60 : Int) < (l.length : Int) := by omega
    generalize dg d = D at *
    clear hv hG hG0
    go_enter Tryd.func4, Tryd.ntmps4
    go_wp2_with (first
      | go_skip
      | (go_at_call 7; refine (CA.out).mono ?_; clear CA; rintro e w1 ⟨rfl, HB⟩))
    go_ret
    exact ⟨rfl, HB.b⟩
end Go.Proofs.YtfghjadhpajmeaaDoor
