/- trellis: study. -/
import Derived.Test.YthpdmeoljdmncaaZ6
import Derived.Laws.Tables
import Derived.Laws.CopyOwn
import Derived.Deep.WholeRow
namespace Go.Proofs.Ythpdmeoljdmncaa
open Go.RowKit
set_option linter.unusedVariables false
set_option linter.unusedSimpArgs false

def sZ : TR.St := ⟨0, [], List.replicate 12 0⟩
/-- what is known of nothing -/
def zk : Array Value := (kC ([], []) none 0 none 0 (.slice none 0 0) (.slice none 0 0) sZ).toArray
theorem zeroK (W : World) : (zeroValue 53).run Try.prog W = .ok (.agg zk) W := by kernel_rfl
theorem infoK : (Try.prog.info? 53).map (·.size) = some 17 := by kernel_rfl
theorem undK : ∃ fs, Try.prog.underlying 53 = some (.struct fs) := ⟨_, Try.underlying53⟩
theorem zk_size : zk.size = 17 := by simp [zk, kC, sZ]
theorem kC_size {g : RC.Gr} {sa aa : Option Addr} {sc ac : Nat} {vn vo : Value} {st : TR.St} (h : st.needs.length = 12) : (kC g sa sc aa ac vn vo st).toArray.size = 17 := by simp [kC, h]
theorem kC_one {g : RC.Gr} {sa aa : Option Addr} {sc ac n1 c1 n2 c2 : Nat} {a1 a2 : Option Addr} {st : TR.St} : (kC g sa sc aa ac (.slice a1 n1 c1) (.slice a2 n2 c2) st).toArray.all (·.oneCell') = true := by
  rw [Array.all_eq_true']
  intro v hv
  simp only [kC, List.mem_toArray, List.mem_append, List.mem_cons, List.not_mem_nil, or_false, List.mem_map] at hv
  rcases hv with (rfl | rfl | rfl | rfl | rfl) | ⟨x, _, rfl⟩ <;> rfl
theorem build53 (g : RC.Gr) (sa aa : Option Addr) (sc ac : Nat) (na : Option Addr) (n nc : Nat) (W : World) : (Instr.build 53 #[(0, .agg (gv g sa sc aa ac)), (1, .slice na n nc)]).run Try.prog W = .ok (.agg (kC g sa sc aa ac (.slice na n nc) (.slice none 0 0) sZ).toArray) W := by
  kernel_rfl
theorem build53z (W : World) : (Instr.build 53 #[]).run Try.prog W = .ok (.agg zk) W := by kernel_rfl
theorem results2_k {P : Program} {fn : Func} {p q : Tmp} {ty : TypeId} (h : fn.results = #[.cell p ty, .tmp q]) (tmps : Array Value) (w : World) (g : Nat) (t : TypeId) (cs : Array Value) (fr : Nat × Nat) (d : TypeDesc)
    (hp : tmps.getD p undef = .pointer (some ⟨g, 0, none⟩)) (hg : w.heap[g]? = some (.cells cs t fr))
    (hu : P.underlying ty = some d) (hd : (match d with | .struct _ | .array _ _ => true | _ => false) = true) (hi : (P.info? ty).map (·.size) = some cs.size) :
    (results fn tmps).run P w = .ok (.tuple #[.agg cs, tmps.getD q undef]) w := by
  have hp' : tmps[p]?.getD undef = .pointer (some ⟨g, 0, none⟩) := by simpa using hp
  simp [results, h, hp', asAddr, run_loadVar_row w g t ty cs fr d hg hu hd hi]
theorem stepk_store_row {P : Program} {ops : Array Oper} {o : Oper} {a : Act} {w : World} {K : Act → World → Prop} {Q : Exit → Act → World → Prop} {E : Prop} (hgd : o.guard = none) (ty : TypeId) (x y : Operand) (ho : o.op = .store ty x y)
    (g : Nat) (cells : Array Value) (hx : a.eval x = .pointer (some ⟨g, 0, none⟩)) (hy : a.eval y = .agg cells)
    (t : TypeId) (old : Array Value) (hg : w.heap[g]? = some (.cells old t (0, 0))) (hi : (P.info? ty).map (·.size) = some cells.size)
    (hold : old.size = cells.size) (h1 : cells.all (·.oneCell') = true)
    (h : K (a.put o.dst undef) (w.setRow g cells)) : if Region.wanted o (yielded ops a.tmps) = true then Oper.wp P o a w K Q else E := by
  have hw : Region.wanted o (yielded ops a.tmps) = true := by simp [Region.wanted, hgd]
  rw [if_pos hw]
  exact wp_store_row ty x y ho g cells hx hy t old hg hi hold h1 h
theorem yk_build {P : Program} {ops : Array Oper} {S : World → Prop} {o : Oper} {a : Act} {t : TypeId} {ps : Array (Nat × Operand)} {v : Value} (hw : Region.wanted o (yielded ops a.tmps) = true) (ho : o.op = .build t ps) (parts : Array (Nat × Value)) (hp : ps.toList.map (fun p => (p.1, a.eval p.2)) = parts.toList) (hr : ∀ w, (Instr.build t parts).run P w = .ok v w) : YieldsIf P ops S o v a :=
  .inl ⟨hw, fun w _ => by
    have hp' : (ps.map fun (i, x) => (i, a.eval x)) = parts := by rw [← Array.toList_inj, Array.toList_map]; exact hp
    unfold execOp; simp only [ho, hp', Sem.run_bind, hr, Result.andThen_ok, Sem.run_pure]⟩
/-- what is known of nothing, in whatever world -/
theorem kv_zero {w W : World} (h : Bl w W) : KV w ([], []) none 0 none 0 (.slice none 0 0) (.slice none 0 0) sZ W :=
  ⟨⟨rfl, Or.inl ⟨rfl, rfl⟩⟩, ⟨rfl, Or.inl ⟨rfl, rfl⟩⟩, ⟨Or.inl ⟨rfl, none, 0, rfl⟩, fun i t h => by simp at h⟩, h, by simp [sZ], by simp, by simp, by simp [sZ], by simp [sZ], by simp [sZ], fun o => by
    have : TR.ndAt sZ.needs o = 0 := by
      unfold TR.ndAt sZ
      simp only [List.getElem?_replicate]
      split <;> rfl
    rw [this]; decide, ⟨by simp, by simp, by simp, by simp⟩⟩
theorem KV.outer {w w1 W : World} {g : RC.Gr} {sa aa : Option Addr} {sc ac : Nat} {vn vo : Value} {st : TR.St} (h : KV w1 g sa sc aa ac vn vo st W) (hb : Bl w w1) (hg : GA w.heap.size w g sa sc aa ac) : KV w g sa sc aa ac vn vo st W :=
  ⟨ownsRow_base h.n (Below.size hb), ownsRow_base h.o (Below.size hb), hg, hb.step h.bl, h.len, h.l1, h.l2, h.ol, h.olt, h.tl, h.ndl, h.gk⟩
/-- what study leaves behind -/
def StP (w : World) (g : RC.Gr) (sa : Option Addr) (sc : Nat) (aa : Option Addr) (ac : Nat) (e : Ending) (w' : World) : Prop :=
  (TR.chk g ≠ 0 ∧ e = .returned (.tuple #[.agg zk, .int .i64 (TR.chk g : Int)]) ∧ Bl w w') ∨
  (TR.Good g ∧ ∃ vn vo, e = .returned (.tuple #[.agg (kC g sa sc aa ac vn vo (TR.fin g)).toArray, .int .i64 0]) ∧ KV w g sa sc aa ac vn vo (TR.fin g) w')
set_option maxRecDepth 8000 in
set_option maxHeartbeats 4000000 in
theorem study_1 (g : RC.Gr) (sa : Option Addr) (sc : Nat) (aa : Option Addr) (ac : Nat) {w W : World} (HB : Bl w W) (hgw : GA w.heap.size w g sa sc aa ac) (hk : grOk g) (hc : RC.can g = false) :
    Calls Try.prog 23 #[.agg (gv g sa sc aa ac)] W (StP w g sa sc aa ac) := by
  have hz := zk_size
  have h1 : zk.all (·.oneCell') = true := kC_one
  obtain ⟨fs, hum⟩ := undK
  have hzz : ∀ W, (zeroValue 53).run Try.prog W = .ok (.agg zk) W := zeroK
  have hbz : ∀ W, (Instr.build 53 #[]).run Try.prog W = .ok (.agg zk) W := build53z
  have HSTP : Hid (StP w g sa sc aa ac = fun e w' => (TR.chk g ≠ 0 ∧ e = .returned (.tuple #[.agg zk, .int .i64 (TR.chk g : Int)]) ∧ Bl w w') ∨ (TR.Good g ∧ ∃ vn vo, e = .returned (.tuple #[.agg (kC g sa sc aa ac vn vo (TR.fin g)).toArray, .int .i64 0]) ∧ KV w g sa sc aa ac vn vo (TR.fin g) w')) := rfl
  have hgW := hgw.bl HB
  have e1 : (W.alloc (.cells #[.slice sa g.1.length sc, .slice aa g.2.length ac] 25)).heap.size = W.heap.size + 1 := by simp
  have e2 : ∀ Z, ((W.alloc (.cells #[.slice sa g.1.length sc, .slice aa g.2.length ac] 25)).alloc (.cells Z 53)).heap.size = W.heap.size + 2 := fun Z => by simp
  have HH : Hid (∀ U, Bl ((W.alloc (.cells #[.slice sa g.1.length sc, .slice aa g.2.length ac] 25)).alloc (.cells zk 53)) U → U.heap[W.heap.size + 1]? = some (.cells zk 53 (0, 0)) ∧ U.cell? ⟨W.heap.size, 0, none⟩ = some (.slice sa g.1.length sc) ∧ U.cell? ⟨W.heap.size, 1, none⟩ = some (.slice aa g.2.length ac) ∧ W.heap.size + 1 < U.heap.size ∧ Bl w U ∧ ∀ C, Bl w (U.setRow (W.heap.size + 1) C)) := fun U hU => by
    have hs := Below.size hU
    rw [e2] at hs
    have hb1 : ((W.alloc (.cells #[.slice sa g.1.length sc, .slice aa g.2.length ac] 25)).alloc (.cells zk 53)).heap[W.heap.size + 1]? = some (.cells zk 53 (0, 0)) := by rw [← e1]; exact heap_alloc_new _ _
    have hb2 : ((W.alloc (.cells #[.slice sa g.1.length sc, .slice aa g.2.length ac] 25)).alloc (.cells zk 53)).heap[W.heap.size]? = some (.cells #[.slice sa g.1.length sc, .slice aa g.2.length ac] 25 (0, 0)) := by
      rw [Below.block ((Bl.refl (W.alloc (.cells #[.slice sa g.1.length sc, .slice aa g.2.length ac] 25))).alloc _) _ (by rw [e1]; omega)]; exact heap_alloc_new W _
    have hbw : Bl w U := ((HB.alloc _).alloc _).step hU
    have hwz : w.heap.size ≤ W.heap.size := Below.size HB
    refine ⟨by rw [Below.block hU _ (by rw [e2]; omega)]; exact hb1, ?_, ?_, by omega, hbw, fun C => below_setRow hbw (by omega) C⟩
    · rw [Bl.cell hU (by rw [e2]; omega), Lib.cell_of_heap hb2]; rfl
    · rw [Bl.cell hU (by rw [e2]; omega), Lib.cell_of_heap hb2]; rfl
  have CP : Hid (Calls Try.prog 39 #[.agg (gv g sa sc aa ac)] ((W.alloc (.cells #[.slice sa g.1.length sc, .slice aa g.2.length ac] 25)).alloc (.cells zk 53)) fun e w' => e = .returned (.tuple #[.string (M.bs []), .int .i64 1]) ∧ Bl ((W.alloc (.cells #[.slice sa g.1.length sc, .slice aa g.2.length ac] 25)).alloc (.cells zk 53)) w') := Print_no g sa sc aa ac (Bl.refl _) (hgW.bl (((Bl.refl W).alloc _).alloc _)) hk hc
  have hchk : TR.chk g = 1 := by unfold TR.chk; rw [if_pos hc]
  rw [hchk] at HSTP
  clear hgW hgw HB hk hc hchk
  generalize zk = Z at *
  generalize StP w g sa sc aa ac = PP at *
  unfold gv at CP ⊢
  go_enter Try.func23, Try.ntmps23
  go_wp2_with (first
    | (go_at_call 39; refine CP.out.mono ?_; clear CP; rintro e w1 ⟨rfl, HB1⟩; obtain ⟨H1, H2, H3, H4, H5, H6⟩ := HH.out _ HB1; have HR : Hid _ := H1; clear H1)
    | (refine wpList_store_row rfl 53 _ _ rfl (W.heap.size + 1) Z rfl rfl 53 Z HR.out (by rw [hz]; exact infoK) rfl h1 ?_))
  refine bodyPost_ret (results2_k rfl _ _ _ 53 Z (0, 0) _ rfl (setRow_heap _ _ _ _ _ _ HR.out) hum rfl (by rw [hz]; exact infoK)) rfl ?_
  rw [HSTP.out]
  exact Or.inl ⟨by decide, rfl, H6 _⟩
theorem ownsRow_setRowK {B n k b : Nat} {e T : TypeId} {v : Value} {xs : List Value} {w : World} {C D : Array Value} {fr : Nat × Nat} (h : w.ownsRow B e k v n xs) (hb : w.heap[b]? = some (.cells C T fr)) (hne : e ≠ T) : (w.setRow b D).ownsRow B e k v n xs := by
  obtain ⟨h0, h1 | ⟨g', cap, cur, h1, h2, h3, h4⟩⟩ := h
  · exact ⟨h0, Or.inl h1⟩
  · refine ⟨h0, Or.inr ⟨g', cap, cur, h1, h2, ?_, h4⟩⟩
    have hgb : b ≠ g' := fun e2 => by
      subst e2
      rw [hb] at h3
      simp only [Option.some.injEq, Obj.cells.injEq] at h3
      exact hne h3.2.1.symm
    show (Array.modify _ b _)[g']? = _
    rw [Array.getElem?_modify, if_neg hgb]; exact h3
theorem mkKX {w1 U : World} {kb : Nat} {g : RC.Gr} {sa aa na : Option Addr} {sc ac nc : Nat} (hb : Bl w1 U) (hw : w1.heap.size ≤ kb) {C0 : Array Value} (hblk : U.heap[kb]? = some (.cells C0 53 (0, 0)))
    (hn : U.ownsRow w1.heap.size 9 1 (.slice na (TR.nm g).length nc) (TR.nm g).length ((TR.nm g).map encS)) (hga : GA w1.heap.size w1 g sa sc aa ac) (h1 : g.1.length ≤ 8) (h2 : g.2.length ≤ 12) (hk : grOk g) :
    KX w1 kb g sa sc aa ac (.slice na (TR.nm g).length nc) (.slice none 0 0) sZ (U.setRow kb (kC g sa sc aa ac (.slice na (TR.nm g).length nc) (.slice none 0 0) sZ).toArray) :=
  ⟨⟨ownsRow_setRowK hn hblk (by decide), ⟨rfl, Or.inl ⟨rfl, rfl⟩⟩, hga, below_setRow hb hw _, by simp [sZ], h1, h2, by simp [sZ], by simp [sZ], by simp [sZ], (kv_zero (Bl.refl w1)).ndl, hk⟩, setRow_heap _ _ _ _ _ _ hblk, hw⟩
set_option maxRecDepth 8000 in
set_option maxHeartbeats 4000000 in
theorem study_21 (g : RC.Gr) (sa : Option Addr) (sc : Nat) (aa : Option Addr) (ac : Nat) {w W : World} (HB : Bl w W) (hgw : GA w.heap.size w g sa sc aa ac) (hk : grOk g) (hc : RC.can g = true) (hd : ¬ (TR.nm g).Nodup) :
    Calls Try.prog 23 #[.agg (gv g sa sc aa ac)] W (StP w g sa sc aa ac) := by
  have hz := zk_size
  have h1 : zk.all (·.oneCell') = true := kC_one
  obtain ⟨fs, hum⟩ := undK
  have hzz : ∀ W, (zeroValue 53).run Try.prog W = .ok (.agg zk) W := zeroK
  have hbz : ∀ W, (Instr.build 53 #[]).run Try.prog W = .ok (.agg zk) W := build53z
  have HSTP : Hid (StP w g sa sc aa ac = fun e w' => (TR.chk g ≠ 0 ∧ e = .returned (.tuple #[.agg zk, .int .i64 (TR.chk g : Int)]) ∧ Bl w w') ∨ (TR.Good g ∧ ∃ vn vo, e = .returned (.tuple #[.agg (kC g sa sc aa ac vn vo (TR.fin g)).toArray, .int .i64 0]) ∧ KV w g sa sc aa ac vn vo (TR.fin g) w')) := rfl
  have hgW := hgw.bl HB
  have e1 : (W.alloc (.cells #[.slice sa g.1.length sc, .slice aa g.2.length ac] 25)).heap.size = W.heap.size + 1 := by simp
  have e2 : ∀ Z, ((W.alloc (.cells #[.slice sa g.1.length sc, .slice aa g.2.length ac] 25)).alloc (.cells Z 53)).heap.size = W.heap.size + 2 := fun Z => by simp
  have HH : Hid (∀ U, Bl ((W.alloc (.cells #[.slice sa g.1.length sc, .slice aa g.2.length ac] 25)).alloc (.cells zk 53)) U → U.heap[W.heap.size + 1]? = some (.cells zk 53 (0, 0)) ∧ U.cell? ⟨W.heap.size, 0, none⟩ = some (.slice sa g.1.length sc) ∧ U.cell? ⟨W.heap.size, 1, none⟩ = some (.slice aa g.2.length ac) ∧ W.heap.size + 1 < U.heap.size ∧ Bl w U ∧ ∀ C, Bl w (U.setRow (W.heap.size + 1) C)) := fun U hU => by
    have hs := Below.size hU
    rw [e2] at hs
    have hb1 : ((W.alloc (.cells #[.slice sa g.1.length sc, .slice aa g.2.length ac] 25)).alloc (.cells zk 53)).heap[W.heap.size + 1]? = some (.cells zk 53 (0, 0)) := by rw [← e1]; exact heap_alloc_new _ _
    have hb2 : ((W.alloc (.cells #[.slice sa g.1.length sc, .slice aa g.2.length ac] 25)).alloc (.cells zk 53)).heap[W.heap.size]? = some (.cells #[.slice sa g.1.length sc, .slice aa g.2.length ac] 25 (0, 0)) := by
      rw [Below.block ((Bl.refl (W.alloc (.cells #[.slice sa g.1.length sc, .slice aa g.2.length ac] 25))).alloc _) _ (by rw [e1]; omega)]; exact heap_alloc_new W _
    have hbw : Bl w U := ((HB.alloc _).alloc _).step hU
    have hwz : w.heap.size ≤ W.heap.size := Below.size HB
    refine ⟨by rw [Below.block hU _ (by rw [e2]; omega)]; exact hb1, ?_, ?_, by omega, hbw, fun C => below_setRow hbw (by omega) C⟩
    · rw [Bl.cell hU (by rw [e2]; omega), Lib.cell_of_heap hb2]; rfl
    · rw [Bl.cell hU (by rw [e2]; omega), Lib.cell_of_heap hb2]; rfl
  have CP : Hid (Calls Try.prog 39 #[.agg (gv g sa sc aa ac)] ((W.alloc (.cells #[.slice sa g.1.length sc, .slice aa g.2.length ac] 25)).alloc (.cells zk 53)) fun e w' => e = .returned (.tuple #[.string (M.bs (RC.text g)), .int .i64 0]) ∧ Bl ((W.alloc (.cells #[.slice sa g.1.length sc, .slice aa g.2.length ac] 25)).alloc (.cells zk 53)) w') := Print_yes g sa sc aa ac (Bl.refl _) (hgW.bl (((Bl.refl W).alloc _).alloc _)) hk hc
  have hl := TR.can_le hc
  have hl1 := hl.1
  have hl2 := hl.2
  have HGK : Hid (grOk g) := hk
  have HGW : Hid (∀ U, Bl ((W.alloc (.cells #[.slice sa g.1.length sc, .slice aa g.2.length ac] 25)).alloc (.cells zk 53)) U → GA U.heap.size U g sa sc aa ac) := fun U hU => (hgW.bl (((Bl.refl W).alloc _).alloc _)).bl hU
  have HGw : Hid (GA w.heap.size w g sa sc aa ac) := hgw
  have CNN : Hid (∀ w1 U, Bl ((W.alloc (.cells #[.slice sa g.1.length sc, .slice aa g.2.length ac] 25)).alloc (.cells zk 53)) w1 → Bl w1 U → Calls Try.prog 40 #[.agg (gv g sa sc aa ac)] U fun e w' => ∃ na nc, e = .returned (.slice na (TR.nm g).length nc) ∧ w'.ownsRow w1.heap.size 9 1 (.slice na (TR.nm g).length nc) (TR.nm g).length ((TR.nm g).map encS) ∧ Bl U w') := fun w1 U h0 hU => by
    refine (allNames_x g sa sc aa ac U ((hgW.bl (((Bl.refl W).alloc _).alloc _)).bl (h0.step hU)) hl1 hl2).mono ?_
    rintro e w' ⟨v, rfl, h3, h4⟩
    obtain ⟨na, nc, rfl⟩ := own_shape h3
    exact ⟨na, nc, rfl, ownsRow_base h3 (Below.size hU), h4⟩
  have HD : Hid ((!decide (TR.nm g).Nodup) = true) := by
    show _ = _
    simp [hd]
  have hchk : TR.chk g = 21 := by
    unfold TR.chk
    rw [if_neg (by simp [hc]), if_pos hd]
  rw [hchk] at HSTP
  clear hchk
  clear hd
  clear hgW hgw HB hk hc hl
  have hbz' := hbz
  generalize hZ : zk = Z at *
  generalize StP w g sa sc aa ac = PP at *
  go_enter Try.func23, Try.ntmps23
  unfold gv at CP ⊢
  go_wp2_with (first
    | (go_at_call 39; refine CP.out.mono ?_; clear CP; rintro e w1 ⟨rfl, HB1⟩; obtain ⟨H1, H2, H3, H4, H5, H6⟩ := HH.out _ HB1))
  have HGA : Hid (GA w1.heap.size w1 g sa sc aa ac) := HGW.out _ HB1
  have CN : Hid (∀ U, Bl w1 U → Calls Try.prog 40 #[.agg (gv g sa sc aa ac)] U fun e w' => ∃ na nc, e = .returned (.slice na (TR.nm g).length nc) ∧ w'.ownsRow w1.heap.size 9 1 (.slice na (TR.nm g).length nc) (TR.nm g).length ((TR.nm g).map encS) ∧ Bl U w') := fun U hU => CNN.out w1 U HB1 hU
  have KP : Hid (∀ U, Bl w1 U → U.cell? ⟨W.heap.size, 0, none⟩ = some (.slice sa g.1.length sc) ∧ U.cell? ⟨W.heap.size, 1, none⟩ = some (.slice aa g.2.length ac)) := fun U hU => ⟨(HH.out U (HB1.step hU)).2.1, (HH.out U (HB1.step hU)).2.2.1⟩
  have HH5 : Hid (∀ U, Bl w1 U → U.heap[W.heap.size + 1]? = some (.cells Z 53 (0, 0)) ∧ U.cell? ⟨W.heap.size, 1, none⟩ = some (.slice aa g.2.length ac) ∧ W.heap.size < U.heap.size ∧ (∀ C, Bl w (U.setRow (W.heap.size + 1) C)) ∧ Bl w U) := fun U hU => by
    obtain ⟨q1, q2, q3, q4, q5, q6⟩ := HH.out U (HB1.step hU)
    exact ⟨q1, q3, by omega, q6, q5⟩
  have HBw : Hid (Bl w w1) := H5
  clear H1 H2 H3 H4 H5 H6 HH CNN HGW HB1
  refine wp_region_noPanic ?_
  refine wp_region_held_drew (S := fun U => U.cell? ⟨W.heap.size, 0, none⟩ = some (.slice sa g.1.length sc) ∧ U.cell? ⟨W.heap.size, 1, none⟩ = some (.slice aa g.2.length ac)) (by kernel_rfl) (KP.out _ ((Bl.refl w1).drewN 1)) (fun hHeld => ?_)
  refine wpAnyH_take (i := 0) (v := ?_) rfl (by kernel_rfl) (by kernel_rfl) (by kernel_rfl) (fun _ _ _ h => h) (Or.inl ⟨by kernel_rfl, ?_⟩) (by assumption) ?_
  rotate_left
  · (intro w hSw; (try dsimp only at hSw); go_simp; (try with_reducible rfl))
  simp only [Act.put, List.getElem_toArray, List.getElem_cons_succ, List.getElem_cons_zero, List.setIfInBounds_toArray, List.set_cons_zero, List.set_cons_succ]
  refine wpAnyH_take (i := 1) (v := ?_) rfl (by kernel_rfl) (by kernel_rfl) (by kernel_rfl) (fun _ _ _ h => h) (Or.inl ⟨by kernel_rfl, ?_⟩) (by assumption) ?_
  rotate_left
  · (intro w hSw; (try dsimp only at hSw); go_simp; (try with_reducible rfl))
  simp only [Act.put, List.getElem_toArray, List.getElem_cons_succ, List.getElem_cons_zero, List.setIfInBounds_toArray, List.set_cons_zero, List.set_cons_succ]
  refine wpAnyH_ready (rs := [2, 4]) (by kernel_rfl) (by simp) ?_
  refine AllReadyH.cons (o := _) rfl (fun K hK => ?_) ?_
  · go_simp
    go_at_call 40; refine (CN.out _ ((Bl.refl w1).drewN 1)).mono ?_; rintro e w3 ⟨na, nc, rfl, HON, HB3⟩
    have HB4 : Bl w1 w3 := ((Bl.refl w1).drewN 1).step HB3
    refine hK.out _ _ (KP.out _ HB4) (fun hHeld => ?_)
    clear hK K
    (try simp only [Act.put, List.getElem_toArray, List.getElem_cons_succ, List.getElem_cons_zero, List.setIfInBounds_toArray, List.set_cons_zero, List.set_cons_succ])
    refine wpAnyH_take (i := 3) (v := .agg (kC g sa sc aa ac (.slice na (TR.nm g).length nc) (.slice none 0 0) sZ).toArray) rfl (by kernel_rfl) (by kernel_rfl) (by kernel_rfl) (fun _ _ _ h => h) (yk_build (by kernel_rfl) rfl #[(0, .agg (gv g sa sc aa ac)), (1, .slice na (TR.nm g).length nc)] (by rfl) (fun w => build53 g sa aa sc ac na (TR.nm g).length nc w)) (by assumption) ?_
    simp only [Act.put, List.getElem_toArray, List.getElem_cons_succ, List.getElem_cons_zero, List.setIfInBounds_toArray, List.set_cons_zero, List.set_cons_succ]
    refine wpAnyH_ready (rs := [4]) (by kernel_rfl) (by simp) ?_
    refine AllReadyH.cons (o := _) rfl (fun K hK => ?_) AllReadyH.nil
    go_simp
    refine hK.out _ _ (KP.out _ (HB4.alloc _)) (fun hHeld => ?_)
    clear hK K
    (try simp only [Act.put, List.getElem_toArray, List.getElem_cons_succ, List.getElem_cons_zero, List.setIfInBounds_toArray, List.set_cons_zero, List.set_cons_succ])
    have HBK : Hid ((w3.alloc (.cells Z 53)).heap[w3.heap.size]? = some (.cells Z 53 (0, 0))) := heap_alloc_new _ _
    have K5 : Hid (KX w1 w3.heap.size g sa sc aa ac (.slice na (TR.nm g).length nc) (.slice none 0 0) sZ ((w3.alloc (.cells Z 53)).setRow w3.heap.size (kC g sa sc aa ac (.slice na (TR.nm g).length nc) (.slice none 0 0) sZ).toArray)) := mkKX (HB4.alloc _) (Below.size HB4) HBK.out (ownsRow_belowT HON ((Bl.refl w3).alloc _)) HGA.out hl1 hl2 HGK.out
    refine wpAnyH_ready (rs := [5]) (by kernel_rfl) (by simp) ?_
    refine AllReadyH.cons (o := _) rfl (fun K hK => ?_) AllReadyH.nil
    refine stepk_store_row rfl 53 _ _ rfl w3.heap.size (kC g sa sc aa ac (.slice na (TR.nm g).length nc) (.slice none 0 0) sZ).toArray (by rfl) (by rfl) 53 Z HBK.out (by rw [kC_size (by simp [sZ])]; exact infoK) (by rw [kC_size (by simp [sZ])]; exact hz) kC_one (hK.out _ _ (KP.out _ K5.out.v.bl) (fun hHeld => ?_))
    clear hK K
    (try simp only [Act.put, List.getElem_toArray, List.getElem_cons_succ, List.getElem_cons_zero, List.setIfInBounds_toArray, List.set_cons_zero, List.set_cons_succ])
    refine wpAnyH_done (by kernel_rfl) ?_ _
    refine NoPanic.normal ?_
    generalize (w3.alloc (.cells Z 53)).setRow w3.heap.size (kC g sa sc aa ac (.slice na (TR.nm g).length nc) (.slice none 0 0) sZ).toArray = W5 at *
    clear HBK HON HB3 HB4
    generalize w3.heap.size = kb at *
    obtain ⟨H1, H2, H3, H4, H5⟩ := HH5.out _ K5.out.v.bl
    have hkb := K5.out.lt
    have CT : Hid (Calls Try.prog 41 #[.pointer (some ⟨kb, 0, none⟩)] W5 fun e w' => e = .returned (.bool true) ∧ w' = W5) := by
      have := hasTwins_at K5.out
      rw [HD.out] at this; exact this
    have HR : Hid _ := H1
    clear H1
    go_wp2_with (first
      | (go_at_call 41; refine CT.out.mono ?_; clear CT; rintro e w' ⟨rfl, hw'⟩; rw [hw']; clear hw' w')
      | (refine wpList_store_row rfl 53 _ _ rfl (W.heap.size + 1) Z rfl rfl 53 Z HR.out (by rw [hz]; exact infoK) rfl h1 ?_))
    refine bodyPost_ret (results2_k rfl _ _ _ 53 Z (0, 0) _ rfl (setRow_heap _ _ _ _ _ _ HR.out) hum rfl (by rw [hz]; exact infoK)) rfl ?_
    rw [HSTP.out]
    exact Or.inl ⟨by decide, rfl, H4 _⟩
  refine AllReadyH.cons (o := _) rfl (fun K hK => ?_) ?_
  · go_simp
    refine hK.out _ _ (KP.out _ (((Bl.refl w1).drewN 1).alloc _)) (fun hHeld => ?_)
    clear hK K
    (try simp only [Act.put, List.getElem_toArray, List.getElem_cons_succ, List.getElem_cons_zero, List.setIfInBounds_toArray, List.set_cons_zero, List.set_cons_succ])
    refine wpAnyH_ready (rs := [2]) (by kernel_rfl) (by simp) ?_
    refine AllReadyH.cons (o := _) rfl (fun K hK => ?_) AllReadyH.nil
    go_simp
    go_at_call 40; refine (CN.out _ (((Bl.refl w1).drewN 1).alloc _)).mono ?_; rintro e w3 ⟨na, nc, rfl, HON, HB3⟩
    have HB4 : Bl w1 w3 := (((Bl.refl w1).drewN 1).alloc _).step HB3
    refine hK.out _ _ (KP.out _ HB4) (fun hHeld => ?_)
    clear hK K
    (try simp only [Act.put, List.getElem_toArray, List.getElem_cons_succ, List.getElem_cons_zero, List.setIfInBounds_toArray, List.set_cons_zero, List.set_cons_succ])
    refine wpAnyH_take (i := 3) (v := .agg (kC g sa sc aa ac (.slice na (TR.nm g).length nc) (.slice none 0 0) sZ).toArray) rfl (by kernel_rfl) (by kernel_rfl) (by kernel_rfl) (fun _ _ _ h => h) (yk_build (by kernel_rfl) rfl #[(0, .agg (gv g sa sc aa ac)), (1, .slice na (TR.nm g).length nc)] (by rfl) (fun w => build53 g sa aa sc ac na (TR.nm g).length nc w)) (by assumption) ?_
    simp only [Act.put, List.getElem_toArray, List.getElem_cons_succ, List.getElem_cons_zero, List.setIfInBounds_toArray, List.set_cons_zero, List.set_cons_succ]
    have HBK : Hid (w3.heap[w1.heap.size]? = some (.cells Z 53 (0, 0))) := by
      show _ = _
      rw [Below.block HB3 _ (by simp)]; exact heap_alloc_new w1.drew _
    have K5 : Hid (KX w1 w1.heap.size g sa sc aa ac (.slice na (TR.nm g).length nc) (.slice none 0 0) sZ (w3.setRow w1.heap.size (kC g sa sc aa ac (.slice na (TR.nm g).length nc) (.slice none 0 0) sZ).toArray)) := mkKX HB4 (Nat.le_refl _) HBK.out HON HGA.out hl1 hl2 HGK.out
    refine wpAnyH_ready (rs := [5]) (by kernel_rfl) (by simp) ?_
    refine AllReadyH.cons (o := _) rfl (fun K hK => ?_) AllReadyH.nil
    refine stepk_store_row rfl 53 _ _ rfl w1.heap.size (kC g sa sc aa ac (.slice na (TR.nm g).length nc) (.slice none 0 0) sZ).toArray (by rfl) (by rfl) 53 Z HBK.out (by rw [kC_size (by simp [sZ])]; exact infoK) (by rw [kC_size (by simp [sZ])]; exact hz) kC_one (hK.out _ _ (KP.out _ K5.out.v.bl) (fun hHeld => ?_))
    clear hK K
    (try simp only [Act.put, List.getElem_toArray, List.getElem_cons_succ, List.getElem_cons_zero, List.setIfInBounds_toArray, List.set_cons_zero, List.set_cons_succ])
    refine wpAnyH_done (by kernel_rfl) ?_ _
    refine NoPanic.normal ?_
    generalize w3.setRow w1.heap.size (kC g sa sc aa ac (.slice na (TR.nm g).length nc) (.slice none 0 0) sZ).toArray = W5 at *
    clear HBK HON HB3 HB4
    generalize hkb : w1.heap.size = kb at *
    clear hkb
    obtain ⟨H1, H2, H3, H4, H5⟩ := HH5.out _ K5.out.v.bl
    have hkb := K5.out.lt
    have CT : Hid (Calls Try.prog 41 #[.pointer (some ⟨kb, 0, none⟩)] W5 fun e w' => e = .returned (.bool true) ∧ w' = W5) := by
      have := hasTwins_at K5.out
      rw [HD.out] at this; exact this
    have HR : Hid _ := H1
    clear H1
    go_wp2_with (first
      | (go_at_call 41; refine CT.out.mono ?_; clear CT; rintro e w' ⟨rfl, hw'⟩; rw [hw']; clear hw' w')
      | (refine wpList_store_row rfl 53 _ _ rfl (W.heap.size + 1) Z rfl rfl 53 Z HR.out (by rw [hz]; exact infoK) rfl h1 ?_))
    refine bodyPost_ret (results2_k rfl _ _ _ 53 Z (0, 0) _ rfl (setRow_heap _ _ _ _ _ _ HR.out) hum rfl (by rw [hz]; exact infoK)) rfl ?_
    rw [HSTP.out]
    exact Or.inl ⟨by decide, rfl, H4 _⟩
  exact AllReadyH.nil
set_option maxRecDepth 8000 in
set_option maxHeartbeats 4000000 in
theorem study_22 (g : RC.Gr) (sa : Option Addr) (sc : Nat) (aa : Option Addr) (ac : Nat) {w W : World} (HB : Bl w W) (hgw : GA w.heap.size w g sa sc aa ac) (hk : grOk g) (hc : RC.can g = true) (hd : (TR.nm g).Nodup) (hm : TR.miss g = true) :
    Calls Try.prog 23 #[.agg (gv g sa sc aa ac)] W (StP w g sa sc aa ac) := by
  have hz := zk_size
  have h1 : zk.all (·.oneCell') = true := kC_one
  obtain ⟨fs, hum⟩ := undK
  have hzz : ∀ W, (zeroValue 53).run Try.prog W = .ok (.agg zk) W := zeroK
  have hbz : ∀ W, (Instr.build 53 #[]).run Try.prog W = .ok (.agg zk) W := build53z
  have HSTP : Hid (StP w g sa sc aa ac = fun e w' => (TR.chk g ≠ 0 ∧ e = .returned (.tuple #[.agg zk, .int .i64 (TR.chk g : Int)]) ∧ Bl w w') ∨ (TR.Good g ∧ ∃ vn vo, e = .returned (.tuple #[.agg (kC g sa sc aa ac vn vo (TR.fin g)).toArray, .int .i64 0]) ∧ KV w g sa sc aa ac vn vo (TR.fin g) w')) := rfl
  have hgW := hgw.bl HB
  have e1 : (W.alloc (.cells #[.slice sa g.1.length sc, .slice aa g.2.length ac] 25)).heap.size = W.heap.size + 1 := by simp
  have e2 : ∀ Z, ((W.alloc (.cells #[.slice sa g.1.length sc, .slice aa g.2.length ac] 25)).alloc (.cells Z 53)).heap.size = W.heap.size + 2 := fun Z => by simp
  have HH : Hid (∀ U, Bl ((W.alloc (.cells #[.slice sa g.1.length sc, .slice aa g.2.length ac] 25)).alloc (.cells zk 53)) U → U.heap[W.heap.size + 1]? = some (.cells zk 53 (0, 0)) ∧ U.cell? ⟨W.heap.size, 0, none⟩ = some (.slice sa g.1.length sc) ∧ U.cell? ⟨W.heap.size, 1, none⟩ = some (.slice aa g.2.length ac) ∧ W.heap.size + 1 < U.heap.size ∧ Bl w U ∧ ∀ C, Bl w (U.setRow (W.heap.size + 1) C)) := fun U hU => by
    have hs := Below.size hU
    rw [e2] at hs
    have hb1 : ((W.alloc (.cells #[.slice sa g.1.length sc, .slice aa g.2.length ac] 25)).alloc (.cells zk 53)).heap[W.heap.size + 1]? = some (.cells zk 53 (0, 0)) := by rw [← e1]; exact heap_alloc_new _ _
    have hb2 : ((W.alloc (.cells #[.slice sa g.1.length sc, .slice aa g.2.length ac] 25)).alloc (.cells zk 53)).heap[W.heap.size]? = some (.cells #[.slice sa g.1.length sc, .slice aa g.2.length ac] 25 (0, 0)) := by
      rw [Below.block ((Bl.refl (W.alloc (.cells #[.slice sa g.1.length sc, .slice aa g.2.length ac] 25))).alloc _) _ (by rw [e1]; omega)]; exact heap_alloc_new W _
    have hbw : Bl w U := ((HB.alloc _).alloc _).step hU
    have hwz : w.heap.size ≤ W.heap.size := Below.size HB
    refine ⟨by rw [Below.block hU _ (by rw [e2]; omega)]; exact hb1, ?_, ?_, by omega, hbw, fun C => below_setRow hbw (by omega) C⟩
    · rw [Bl.cell hU (by rw [e2]; omega), Lib.cell_of_heap hb2]; rfl
    · rw [Bl.cell hU (by rw [e2]; omega), Lib.cell_of_heap hb2]; rfl
  have CP : Hid (Calls Try.prog 39 #[.agg (gv g sa sc aa ac)] ((W.alloc (.cells #[.slice sa g.1.length sc, .slice aa g.2.length ac] 25)).alloc (.cells zk 53)) fun e w' => e = .returned (.tuple #[.string (M.bs (RC.text g)), .int .i64 0]) ∧ Bl ((W.alloc (.cells #[.slice sa g.1.length sc, .slice aa g.2.length ac] 25)).alloc (.cells zk 53)) w') := Print_yes g sa sc aa ac (Bl.refl _) (hgW.bl (((Bl.refl W).alloc _).alloc _)) hk hc
  have hl := TR.can_le hc
  have hl1 := hl.1
  have hl2 := hl.2
  have HGK : Hid (grOk g) := hk
  have HGW : Hid (∀ U, Bl ((W.alloc (.cells #[.slice sa g.1.length sc, .slice aa g.2.length ac] 25)).alloc (.cells zk 53)) U → GA U.heap.size U g sa sc aa ac) := fun U hU => (hgW.bl (((Bl.refl W).alloc _).alloc _)).bl hU
  have HGw : Hid (GA w.heap.size w g sa sc aa ac) := hgw
  have CNN : Hid (∀ w1 U, Bl ((W.alloc (.cells #[.slice sa g.1.length sc, .slice aa g.2.length ac] 25)).alloc (.cells zk 53)) w1 → Bl w1 U → Calls Try.prog 40 #[.agg (gv g sa sc aa ac)] U fun e w' => ∃ na nc, e = .returned (.slice na (TR.nm g).length nc) ∧ w'.ownsRow w1.heap.size 9 1 (.slice na (TR.nm g).length nc) (TR.nm g).length ((TR.nm g).map encS) ∧ Bl U w') := fun w1 U h0 hU => by
    refine (allNames_x g sa sc aa ac U ((hgW.bl (((Bl.refl W).alloc _).alloc _)).bl (h0.step hU)) hl1 hl2).mono ?_
    rintro e w' ⟨v, rfl, h3, h4⟩
    obtain ⟨na, nc, rfl⟩ := own_shape h3
    exact ⟨na, nc, rfl, ownsRow_base h3 (Below.size hU), h4⟩
  have HD : Hid ((!decide (TR.nm g).Nodup) = false) := by
    show _ = _
    simp [hd]
  have HM : Hid (TR.miss g = true) := hm
  have hchk : TR.chk g = 22 := by
    unfold TR.chk
    rw [if_neg (by simp [hc]), if_neg (by simp [hd]), if_pos hm]
  rw [hchk] at HSTP
  clear hchk
  clear hd hm
  clear hgW hgw HB hk hc hl
  have hbz' := hbz
  generalize hZ : zk = Z at *
  generalize StP w g sa sc aa ac = PP at *
  go_enter Try.func23, Try.ntmps23
  unfold gv at CP ⊢
  go_wp2_with (first
    | (go_at_call 39; refine CP.out.mono ?_; clear CP; rintro e w1 ⟨rfl, HB1⟩; obtain ⟨H1, H2, H3, H4, H5, H6⟩ := HH.out _ HB1))
  have HGA : Hid (GA w1.heap.size w1 g sa sc aa ac) := HGW.out _ HB1
  have CN : Hid (∀ U, Bl w1 U → Calls Try.prog 40 #[.agg (gv g sa sc aa ac)] U fun e w' => ∃ na nc, e = .returned (.slice na (TR.nm g).length nc) ∧ w'.ownsRow w1.heap.size 9 1 (.slice na (TR.nm g).length nc) (TR.nm g).length ((TR.nm g).map encS) ∧ Bl U w') := fun U hU => CNN.out w1 U HB1 hU
  have KP : Hid (∀ U, Bl w1 U → U.cell? ⟨W.heap.size, 0, none⟩ = some (.slice sa g.1.length sc) ∧ U.cell? ⟨W.heap.size, 1, none⟩ = some (.slice aa g.2.length ac)) := fun U hU => ⟨(HH.out U (HB1.step hU)).2.1, (HH.out U (HB1.step hU)).2.2.1⟩
  have HH5 : Hid (∀ U, Bl w1 U → U.heap[W.heap.size + 1]? = some (.cells Z 53 (0, 0)) ∧ U.cell? ⟨W.heap.size, 1, none⟩ = some (.slice aa g.2.length ac) ∧ W.heap.size < U.heap.size ∧ (∀ C, Bl w (U.setRow (W.heap.size + 1) C)) ∧ Bl w U) := fun U hU => by
    obtain ⟨q1, q2, q3, q4, q5, q6⟩ := HH.out U (HB1.step hU)
    exact ⟨q1, q3, by omega, q6, q5⟩
  have HBw : Hid (Bl w w1) := H5
  clear H1 H2 H3 H4 H5 H6 HH CNN HGW HB1
  refine wp_region_noPanic ?_
  refine wp_region_held_drew (S := fun U => U.cell? ⟨W.heap.size, 0, none⟩ = some (.slice sa g.1.length sc) ∧ U.cell? ⟨W.heap.size, 1, none⟩ = some (.slice aa g.2.length ac)) (by kernel_rfl) (KP.out _ ((Bl.refl w1).drewN 1)) (fun hHeld => ?_)
  refine wpAnyH_take (i := 0) (v := ?_) rfl (by kernel_rfl) (by kernel_rfl) (by kernel_rfl) (fun _ _ _ h => h) (Or.inl ⟨by kernel_rfl, ?_⟩) (by assumption) ?_
  rotate_left
  · (intro w hSw; (try dsimp only at hSw); go_simp; (try with_reducible rfl))
  simp only [Act.put, List.getElem_toArray, List.getElem_cons_succ, List.getElem_cons_zero, List.setIfInBounds_toArray, List.set_cons_zero, List.set_cons_succ]
  refine wpAnyH_take (i := 1) (v := ?_) rfl (by kernel_rfl) (by kernel_rfl) (by kernel_rfl) (fun _ _ _ h => h) (Or.inl ⟨by kernel_rfl, ?_⟩) (by assumption) ?_
  rotate_left
  · (intro w hSw; (try dsimp only at hSw); go_simp; (try with_reducible rfl))
  simp only [Act.put, List.getElem_toArray, List.getElem_cons_succ, List.getElem_cons_zero, List.setIfInBounds_toArray, List.set_cons_zero, List.set_cons_succ]
  refine wpAnyH_ready (rs := [2, 4]) (by kernel_rfl) (by simp) ?_
  refine AllReadyH.cons (o := _) rfl (fun K hK => ?_) ?_
  · go_simp
    go_at_call 40; refine (CN.out _ ((Bl.refl w1).drewN 1)).mono ?_; rintro e w3 ⟨na, nc, rfl, HON, HB3⟩
    have HB4 : Bl w1 w3 := ((Bl.refl w1).drewN 1).step HB3
    refine hK.out _ _ (KP.out _ HB4) (fun hHeld => ?_)
    clear hK K
    (try simp only [Act.put, List.getElem_toArray, List.getElem_cons_succ, List.getElem_cons_zero, List.setIfInBounds_toArray, List.set_cons_zero, List.set_cons_succ])
    refine wpAnyH_take (i := 3) (v := .agg (kC g sa sc aa ac (.slice na (TR.nm g).length nc) (.slice none 0 0) sZ).toArray) rfl (by kernel_rfl) (by kernel_rfl) (by kernel_rfl) (fun _ _ _ h => h) (yk_build (by kernel_rfl) rfl #[(0, .agg (gv g sa sc aa ac)), (1, .slice na (TR.nm g).length nc)] (by rfl) (fun w => build53 g sa aa sc ac na (TR.nm g).length nc w)) (by assumption) ?_
    simp only [Act.put, List.getElem_toArray, List.getElem_cons_succ, List.getElem_cons_zero, List.setIfInBounds_toArray, List.set_cons_zero, List.set_cons_succ]
    refine wpAnyH_ready (rs := [4]) (by kernel_rfl) (by simp) ?_
    refine AllReadyH.cons (o := _) rfl (fun K hK => ?_) AllReadyH.nil
    go_simp
    refine hK.out _ _ (KP.out _ (HB4.alloc _)) (fun hHeld => ?_)
    clear hK K
    (try simp only [Act.put, List.getElem_toArray, List.getElem_cons_succ, List.getElem_cons_zero, List.setIfInBounds_toArray, List.set_cons_zero, List.set_cons_succ])
    have HBK : Hid ((w3.alloc (.cells Z 53)).heap[w3.heap.size]? = some (.cells Z 53 (0, 0))) := heap_alloc_new _ _
    have K5 : Hid (KX w1 w3.heap.size g sa sc aa ac (.slice na (TR.nm g).length nc) (.slice none 0 0) sZ ((w3.alloc (.cells Z 53)).setRow w3.heap.size (kC g sa sc aa ac (.slice na (TR.nm g).length nc) (.slice none 0 0) sZ).toArray)) := mkKX (HB4.alloc _) (Below.size HB4) HBK.out (ownsRow_belowT HON ((Bl.refl w3).alloc _)) HGA.out hl1 hl2 HGK.out
    refine wpAnyH_ready (rs := [5]) (by kernel_rfl) (by simp) ?_
    refine AllReadyH.cons (o := _) rfl (fun K hK => ?_) AllReadyH.nil
    refine stepk_store_row rfl 53 _ _ rfl w3.heap.size (kC g sa sc aa ac (.slice na (TR.nm g).length nc) (.slice none 0 0) sZ).toArray (by rfl) (by rfl) 53 Z HBK.out (by rw [kC_size (by simp [sZ])]; exact infoK) (by rw [kC_size (by simp [sZ])]; exact hz) kC_one (hK.out _ _ (KP.out _ K5.out.v.bl) (fun hHeld => ?_))
    clear hK K
    (try simp only [Act.put, List.getElem_toArray, List.getElem_cons_succ, List.getElem_cons_zero, List.setIfInBounds_toArray, List.set_cons_zero, List.set_cons_succ])
    refine wpAnyH_done (by kernel_rfl) ?_ _
    refine NoPanic.normal ?_
    generalize (w3.alloc (.cells Z 53)).setRow w3.heap.size (kC g sa sc aa ac (.slice na (TR.nm g).length nc) (.slice none 0 0) sZ).toArray = W5 at *
    clear HBK HON HB3 HB4
    generalize w3.heap.size = kb at *
    obtain ⟨H1, H2, H3, H4, H5⟩ := HH5.out _ K5.out.v.bl
    have hkb := K5.out.lt
    have CT : Hid (Calls Try.prog 41 #[.pointer (some ⟨kb, 0, none⟩)] W5 fun e w' => e = .returned (.bool false) ∧ w' = W5) := by
      have := hasTwins_at K5.out
      rw [HD.out] at this; exact this
    have CM : Hid (Calls Try.prog 42 #[.slice aa g.2.length ac, .func (.func 43) #[.pointer (some ⟨kb, 0, none⟩)] #[]] W5 fun e w' => e = .returned (.bool true) ∧ Bl W5 w') := by
      have := containsMiss K5.out
      rw [HM.out] at this; exact this
    go_wp2_with (first
      | (go_at_call 41; refine CT.out.mono ?_; clear CT; rintro e w' ⟨rfl, hw'⟩; rw [hw']; clear hw' w')
      | (go_at_call 42; refine CM.out.mono ?_; clear CM H1 H2 H3 H4 H5; rintro e w6 ⟨rfl, HB6⟩; obtain ⟨H1, H2, H3, H4, H5⟩ := HH5.out _ (K5.out.v.bl.step HB6); have HR : Hid _ := H1; clear H1)
      | (refine wpList_store_row rfl 53 _ _ rfl (W.heap.size + 1) Z rfl rfl 53 Z HR.out (by rw [hz]; exact infoK) rfl h1 ?_))
    refine bodyPost_ret (results2_k rfl _ _ _ 53 Z (0, 0) _ rfl (setRow_heap _ _ _ _ _ _ HR.out) hum rfl (by rw [hz]; exact infoK)) rfl ?_
    rw [HSTP.out]
    exact Or.inl ⟨by decide, rfl, H4 _⟩
  refine AllReadyH.cons (o := _) rfl (fun K hK => ?_) ?_
  · go_simp
    refine hK.out _ _ (KP.out _ (((Bl.refl w1).drewN 1).alloc _)) (fun hHeld => ?_)
    clear hK K
    (try simp only [Act.put, List.getElem_toArray, List.getElem_cons_succ, List.getElem_cons_zero, List.setIfInBounds_toArray, List.set_cons_zero, List.set_cons_succ])
    refine wpAnyH_ready (rs := [2]) (by kernel_rfl) (by simp) ?_
    refine AllReadyH.cons (o := _) rfl (fun K hK => ?_) AllReadyH.nil
    go_simp
    go_at_call 40; refine (CN.out _ (((Bl.refl w1).drewN 1).alloc _)).mono ?_; rintro e w3 ⟨na, nc, rfl, HON, HB3⟩
    have HB4 : Bl w1 w3 := (((Bl.refl w1).drewN 1).alloc _).step HB3
    refine hK.out _ _ (KP.out _ HB4) (fun hHeld => ?_)
    clear hK K
    (try simp only [Act.put, List.getElem_toArray, List.getElem_cons_succ, List.getElem_cons_zero, List.setIfInBounds_toArray, List.set_cons_zero, List.set_cons_succ])
    refine wpAnyH_take (i := 3) (v := .agg (kC g sa sc aa ac (.slice na (TR.nm g).length nc) (.slice none 0 0) sZ).toArray) rfl (by kernel_rfl) (by kernel_rfl) (by kernel_rfl) (fun _ _ _ h => h) (yk_build (by kernel_rfl) rfl #[(0, .agg (gv g sa sc aa ac)), (1, .slice na (TR.nm g).length nc)] (by rfl) (fun w => build53 g sa aa sc ac na (TR.nm g).length nc w)) (by assumption) ?_
    simp only [Act.put, List.getElem_toArray, List.getElem_cons_succ, List.getElem_cons_zero, List.setIfInBounds_toArray, List.set_cons_zero, List.set_cons_succ]
    have HBK : Hid (w3.heap[w1.heap.size]? = some (.cells Z 53 (0, 0))) := by
      show _ = _
      rw [Below.block HB3 _ (by simp)]; exact heap_alloc_new w1.drew _
    have K5 : Hid (KX w1 w1.heap.size g sa sc aa ac (.slice na (TR.nm g).length nc) (.slice none 0 0) sZ (w3.setRow w1.heap.size (kC g sa sc aa ac (.slice na (TR.nm g).length nc) (.slice none 0 0) sZ).toArray)) := mkKX HB4 (Nat.le_refl _) HBK.out HON HGA.out hl1 hl2 HGK.out
    refine wpAnyH_ready (rs := [5]) (by kernel_rfl) (by simp) ?_
    refine AllReadyH.cons (o := _) rfl (fun K hK => ?_) AllReadyH.nil
    refine stepk_store_row rfl 53 _ _ rfl w1.heap.size (kC g sa sc aa ac (.slice na (TR.nm g).length nc) (.slice none 0 0) sZ).toArray (by rfl) (by rfl) 53 Z HBK.out (by rw [kC_size (by simp [sZ])]; exact infoK) (by rw [kC_size (by simp [sZ])]; exact hz) kC_one (hK.out _ _ (KP.out _ K5.out.v.bl) (fun hHeld => ?_))
    clear hK K
    (try simp only [Act.put, List.getElem_toArray, List.getElem_cons_succ, List.getElem_cons_zero, List.setIfInBounds_toArray, List.set_cons_zero, List.set_cons_succ])
    refine wpAnyH_done (by kernel_rfl) ?_ _
    refine NoPanic.normal ?_
    generalize w3.setRow w1.heap.size (kC g sa sc aa ac (.slice na (TR.nm g).length nc) (.slice none 0 0) sZ).toArray = W5 at *
    clear HBK HON HB3 HB4
    generalize hkb : w1.heap.size = kb at *
    clear hkb
    obtain ⟨H1, H2, H3, H4, H5⟩ := HH5.out _ K5.out.v.bl
    have hkb := K5.out.lt
    have CT : Hid (Calls Try.prog 41 #[.pointer (some ⟨kb, 0, none⟩)] W5 fun e w' => e = .returned (.bool false) ∧ w' = W5) := by
      have := hasTwins_at K5.out
      rw [HD.out] at this; exact this
    have CM : Hid (Calls Try.prog 42 #[.slice aa g.2.length ac, .func (.func 43) #[.pointer (some ⟨kb, 0, none⟩)] #[]] W5 fun e w' => e = .returned (.bool true) ∧ Bl W5 w') := by
      have := containsMiss K5.out
      rw [HM.out] at this; exact this
    go_wp2_with (first
      | (go_at_call 41; refine CT.out.mono ?_; clear CT; rintro e w' ⟨rfl, hw'⟩; rw [hw']; clear hw' w')
      | (go_at_call 42; refine CM.out.mono ?_; clear CM H1 H2 H3 H4 H5; rintro e w6 ⟨rfl, HB6⟩; obtain ⟨H1, H2, H3, H4, H5⟩ := HH5.out _ (K5.out.v.bl.step HB6); have HR : Hid _ := H1; clear H1)
      | (refine wpList_store_row rfl 53 _ _ rfl (W.heap.size + 1) Z rfl rfl 53 Z HR.out (by rw [hz]; exact infoK) rfl h1 ?_))
    refine bodyPost_ret (results2_k rfl _ _ _ 53 Z (0, 0) _ rfl (setRow_heap _ _ _ _ _ _ HR.out) hum rfl (by rw [hz]; exact infoK)) rfl ?_
    rw [HSTP.out]
    exact Or.inl ⟨by decide, rfl, H4 _⟩
  exact AllReadyH.nil
set_option maxRecDepth 8000 in
set_option maxHeartbeats 4000000 in
theorem study_23 (g : RC.Gr) (sa : Option Addr) (sc : Nat) (aa : Option Addr) (ac : Nat) {w W : World} (HB : Bl w W) (hgw : GA w.heap.size w g sa sc aa ac) (hk : grOk g) (hc : RC.can g = true) (hd : (TR.nm g).Nodup) (hm : TR.miss g = false) (ha : TR.arr g g.2.length (TR.st0 g) = none) :
    Calls Try.prog 23 #[.agg (gv g sa sc aa ac)] W (StP w g sa sc aa ac) := by
  have hz := zk_size
  have h1 : zk.all (·.oneCell') = true := kC_one
  obtain ⟨fs, hum⟩ := undK
  have hzz : ∀ W, (zeroValue 53).run Try.prog W = .ok (.agg zk) W := zeroK
  have hbz : ∀ W, (Instr.build 53 #[]).run Try.prog W = .ok (.agg zk) W := build53z
  have HSTP : Hid (StP w g sa sc aa ac = fun e w' => (TR.chk g ≠ 0 ∧ e = .returned (.tuple #[.agg zk, .int .i64 (TR.chk g : Int)]) ∧ Bl w w') ∨ (TR.Good g ∧ ∃ vn vo, e = .returned (.tuple #[.agg (kC g sa sc aa ac vn vo (TR.fin g)).toArray, .int .i64 0]) ∧ KV w g sa sc aa ac vn vo (TR.fin g) w')) := rfl
  have hgW := hgw.bl HB
  have e1 : (W.alloc (.cells #[.slice sa g.1.length sc, .slice aa g.2.length ac] 25)).heap.size = W.heap.size + 1 := by simp
  have e2 : ∀ Z, ((W.alloc (.cells #[.slice sa g.1.length sc, .slice aa g.2.length ac] 25)).alloc (.cells Z 53)).heap.size = W.heap.size + 2 := fun Z => by simp
  have HH : Hid (∀ U, Bl ((W.alloc (.cells #[.slice sa g.1.length sc, .slice aa g.2.length ac] 25)).alloc (.cells zk 53)) U → U.heap[W.heap.size + 1]? = some (.cells zk 53 (0, 0)) ∧ U.cell? ⟨W.heap.size, 0, none⟩ = some (.slice sa g.1.length sc) ∧ U.cell? ⟨W.heap.size, 1, none⟩ = some (.slice aa g.2.length ac) ∧ W.heap.size + 1 < U.heap.size ∧ Bl w U ∧ ∀ C, Bl w (U.setRow (W.heap.size + 1) C)) := fun U hU => by
    have hs := Below.size hU
    rw [e2] at hs
    have hb1 : ((W.alloc (.cells #[.slice sa g.1.length sc, .slice aa g.2.length ac] 25)).alloc (.cells zk 53)).heap[W.heap.size + 1]? = some (.cells zk 53 (0, 0)) := by rw [← e1]; exact heap_alloc_new _ _
    have hb2 : ((W.alloc (.cells #[.slice sa g.1.length sc, .slice aa g.2.length ac] 25)).alloc (.cells zk 53)).heap[W.heap.size]? = some (.cells #[.slice sa g.1.length sc, .slice aa g.2.length ac] 25 (0, 0)) := by
      rw [Below.block ((Bl.refl (W.alloc (.cells #[.slice sa g.1.length sc, .slice aa g.2.length ac] 25))).alloc _) _ (by rw [e1]; omega)]; exact heap_alloc_new W _
    have hbw : Bl w U := ((HB.alloc _).alloc _).step hU
    have hwz : w.heap.size ≤ W.heap.size := Below.size HB
    refine ⟨by rw [Below.block hU _ (by rw [e2]; omega)]; exact hb1, ?_, ?_, by omega, hbw, fun C => below_setRow hbw (by omega) C⟩
    · rw [Bl.cell hU (by rw [e2]; omega), Lib.cell_of_heap hb2]; rfl
    · rw [Bl.cell hU (by rw [e2]; omega), Lib.cell_of_heap hb2]; rfl
  have CP : Hid (Calls Try.prog 39 #[.agg (gv g sa sc aa ac)] ((W.alloc (.cells #[.slice sa g.1.length sc, .slice aa g.2.length ac] 25)).alloc (.cells zk 53)) fun e w' => e = .returned (.tuple #[.string (M.bs (RC.text g)), .int .i64 0]) ∧ Bl ((W.alloc (.cells #[.slice sa g.1.length sc, .slice aa g.2.length ac] 25)).alloc (.cells zk 53)) w') := Print_yes g sa sc aa ac (Bl.refl _) (hgW.bl (((Bl.refl W).alloc _).alloc _)) hk hc
  have hl := TR.can_le hc
  have hl1 := hl.1
  have hl2 := hl.2
  have HGK : Hid (grOk g) := hk
  have HGW : Hid (∀ U, Bl ((W.alloc (.cells #[.slice sa g.1.length sc, .slice aa g.2.length ac] 25)).alloc (.cells zk 53)) U → GA U.heap.size U g sa sc aa ac) := fun U hU => (hgW.bl (((Bl.refl W).alloc _).alloc _)).bl hU
  have HGw : Hid (GA w.heap.size w g sa sc aa ac) := hgw
  have CNN : Hid (∀ w1 U, Bl ((W.alloc (.cells #[.slice sa g.1.length sc, .slice aa g.2.length ac] 25)).alloc (.cells zk 53)) w1 → Bl w1 U → Calls Try.prog 40 #[.agg (gv g sa sc aa ac)] U fun e w' => ∃ na nc, e = .returned (.slice na (TR.nm g).length nc) ∧ w'.ownsRow w1.heap.size 9 1 (.slice na (TR.nm g).length nc) (TR.nm g).length ((TR.nm g).map encS) ∧ Bl U w') := fun w1 U h0 hU => by
    refine (allNames_x g sa sc aa ac U ((hgW.bl (((Bl.refl W).alloc _).alloc _)).bl (h0.step hU)) hl1 hl2).mono ?_
    rintro e w' ⟨v, rfl, h3, h4⟩
    obtain ⟨na, nc, rfl⟩ := own_shape h3
    exact ⟨na, nc, rfl, ownsRow_base h3 (Below.size hU), h4⟩
  have HD : Hid ((!decide (TR.nm g).Nodup) = false) := by
    show _ = _
    simp [hd]
  have HM : Hid (TR.miss g = false) := hm
  have HA : Hid (TR.arr g g.2.length (TR.st0 g) = none) := ha
  have hchk : TR.chk g = 23 := by
    unfold TR.chk
    rw [if_neg (by simp [hc]), if_neg (by simp [hd]), if_neg (by simp [hm]), ha]
  rw [hchk] at HSTP
  clear hchk
  clear hd hm ha
  clear hgW hgw HB hk hc hl
  have hbz' := hbz
  generalize hZ : zk = Z at *
  generalize StP w g sa sc aa ac = PP at *
  go_enter Try.func23, Try.ntmps23
  unfold gv at CP ⊢
  go_wp2_with (first
    | (go_at_call 39; refine CP.out.mono ?_; clear CP; rintro e w1 ⟨rfl, HB1⟩; obtain ⟨H1, H2, H3, H4, H5, H6⟩ := HH.out _ HB1))
  have HGA : Hid (GA w1.heap.size w1 g sa sc aa ac) := HGW.out _ HB1
  have CN : Hid (∀ U, Bl w1 U → Calls Try.prog 40 #[.agg (gv g sa sc aa ac)] U fun e w' => ∃ na nc, e = .returned (.slice na (TR.nm g).length nc) ∧ w'.ownsRow w1.heap.size 9 1 (.slice na (TR.nm g).length nc) (TR.nm g).length ((TR.nm g).map encS) ∧ Bl U w') := fun U hU => CNN.out w1 U HB1 hU
  have KP : Hid (∀ U, Bl w1 U → U.cell? ⟨W.heap.size, 0, none⟩ = some (.slice sa g.1.length sc) ∧ U.cell? ⟨W.heap.size, 1, none⟩ = some (.slice aa g.2.length ac)) := fun U hU => ⟨(HH.out U (HB1.step hU)).2.1, (HH.out U (HB1.step hU)).2.2.1⟩
  have HH5 : Hid (∀ U, Bl w1 U → U.heap[W.heap.size + 1]? = some (.cells Z 53 (0, 0)) ∧ U.cell? ⟨W.heap.size, 1, none⟩ = some (.slice aa g.2.length ac) ∧ W.heap.size < U.heap.size ∧ (∀ C, Bl w (U.setRow (W.heap.size + 1) C)) ∧ Bl w U) := fun U hU => by
    obtain ⟨q1, q2, q3, q4, q5, q6⟩ := HH.out U (HB1.step hU)
    exact ⟨q1, q3, by omega, q6, q5⟩
  have HBw : Hid (Bl w w1) := H5
  clear H1 H2 H3 H4 H5 H6 HH CNN HGW HB1
  refine wp_region_noPanic ?_
  refine wp_region_held_drew (S := fun U => U.cell? ⟨W.heap.size, 0, none⟩ = some (.slice sa g.1.length sc) ∧ U.cell? ⟨W.heap.size, 1, none⟩ = some (.slice aa g.2.length ac)) (by kernel_rfl) (KP.out _ ((Bl.refl w1).drewN 1)) (fun hHeld => ?_)
  refine wpAnyH_take (i := 0) (v := ?_) rfl (by kernel_rfl) (by kernel_rfl) (by kernel_rfl) (fun _ _ _ h => h) (Or.inl ⟨by kernel_rfl, ?_⟩) (by assumption) ?_
  rotate_left
  · (intro w hSw; (try dsimp only at hSw); go_simp; (try with_reducible rfl))
  simp only [Act.put, List.getElem_toArray, List.getElem_cons_succ, List.getElem_cons_zero, List.setIfInBounds_toArray, List.set_cons_zero, List.set_cons_succ]
  refine wpAnyH_take (i := 1) (v := ?_) rfl (by kernel_rfl) (by kernel_rfl) (by kernel_rfl) (fun _ _ _ h => h) (Or.inl ⟨by kernel_rfl, ?_⟩) (by assumption) ?_
  rotate_left
  · (intro w hSw; (try dsimp only at hSw); go_simp; (try with_reducible rfl))
  simp only [Act.put, List.getElem_toArray, List.getElem_cons_succ, List.getElem_cons_zero, List.setIfInBounds_toArray, List.set_cons_zero, List.set_cons_succ]
  refine wpAnyH_ready (rs := [2, 4]) (by kernel_rfl) (by simp) ?_
  refine AllReadyH.cons (o := _) rfl (fun K hK => ?_) ?_
  · go_simp
    go_at_call 40; refine (CN.out _ ((Bl.refl w1).drewN 1)).mono ?_; rintro e w3 ⟨na, nc, rfl, HON, HB3⟩
    have HB4 : Bl w1 w3 := ((Bl.refl w1).drewN 1).step HB3
    refine hK.out _ _ (KP.out _ HB4) (fun hHeld => ?_)
    clear hK K
    (try simp only [Act.put, List.getElem_toArray, List.getElem_cons_succ, List.getElem_cons_zero, List.setIfInBounds_toArray, List.set_cons_zero, List.set_cons_succ])
    refine wpAnyH_take (i := 3) (v := .agg (kC g sa sc aa ac (.slice na (TR.nm g).length nc) (.slice none 0 0) sZ).toArray) rfl (by kernel_rfl) (by kernel_rfl) (by kernel_rfl) (fun _ _ _ h => h) (yk_build (by kernel_rfl) rfl #[(0, .agg (gv g sa sc aa ac)), (1, .slice na (TR.nm g).length nc)] (by rfl) (fun w => build53 g sa aa sc ac na (TR.nm g).length nc w)) (by assumption) ?_
    simp only [Act.put, List.getElem_toArray, List.getElem_cons_succ, List.getElem_cons_zero, List.setIfInBounds_toArray, List.set_cons_zero, List.set_cons_succ]
    refine wpAnyH_ready (rs := [4]) (by kernel_rfl) (by simp) ?_
    refine AllReadyH.cons (o := _) rfl (fun K hK => ?_) AllReadyH.nil
    go_simp
    refine hK.out _ _ (KP.out _ (HB4.alloc _)) (fun hHeld => ?_)
    clear hK K
    (try simp only [Act.put, List.getElem_toArray, List.getElem_cons_succ, List.getElem_cons_zero, List.setIfInBounds_toArray, List.set_cons_zero, List.set_cons_succ])
    have HBK : Hid ((w3.alloc (.cells Z 53)).heap[w3.heap.size]? = some (.cells Z 53 (0, 0))) := heap_alloc_new _ _
    have K5 : Hid (KX w1 w3.heap.size g sa sc aa ac (.slice na (TR.nm g).length nc) (.slice none 0 0) sZ ((w3.alloc (.cells Z 53)).setRow w3.heap.size (kC g sa sc aa ac (.slice na (TR.nm g).length nc) (.slice none 0 0) sZ).toArray)) := mkKX (HB4.alloc _) (Below.size HB4) HBK.out (ownsRow_belowT HON ((Bl.refl w3).alloc _)) HGA.out hl1 hl2 HGK.out
    refine wpAnyH_ready (rs := [5]) (by kernel_rfl) (by simp) ?_
    refine AllReadyH.cons (o := _) rfl (fun K hK => ?_) AllReadyH.nil
    refine stepk_store_row rfl 53 _ _ rfl w3.heap.size (kC g sa sc aa ac (.slice na (TR.nm g).length nc) (.slice none 0 0) sZ).toArray (by rfl) (by rfl) 53 Z HBK.out (by rw [kC_size (by simp [sZ])]; exact infoK) (by rw [kC_size (by simp [sZ])]; exact hz) kC_one (hK.out _ _ (KP.out _ K5.out.v.bl) (fun hHeld => ?_))
    clear hK K
    (try simp only [Act.put, List.getElem_toArray, List.getElem_cons_succ, List.getElem_cons_zero, List.setIfInBounds_toArray, List.set_cons_zero, List.set_cons_succ])
    refine wpAnyH_done (by kernel_rfl) ?_ _
    refine NoPanic.normal ?_
    generalize (w3.alloc (.cells Z 53)).setRow w3.heap.size (kC g sa sc aa ac (.slice na (TR.nm g).length nc) (.slice none 0 0) sZ).toArray = W5 at *
    clear HBK HON HB3 HB4
    generalize w3.heap.size = kb at *
    obtain ⟨H1, H2, H3, H4, H5⟩ := HH5.out _ K5.out.v.bl
    have hkb := K5.out.lt
    have CT : Hid (Calls Try.prog 41 #[.pointer (some ⟨kb, 0, none⟩)] W5 fun e w' => e = .returned (.bool false) ∧ w' = W5) := by
      have := hasTwins_at K5.out
      rw [HD.out] at this; exact this
    have CM : Hid (Calls Try.prog 42 #[.slice aa g.2.length ac, .func (.func 43) #[.pointer (some ⟨kb, 0, none⟩)] #[]] W5 fun e w' => e = .returned (.bool false) ∧ Bl W5 w') := by
      have := containsMiss K5.out
      rw [HM.out] at this; exact this
    have CA : Hid (∀ w6, Bl W5 w6 → Calls Try.prog 44 #[.pointer (some ⟨kb, 0, none⟩)] w6 fun e w' => e = .returned (.bool false) ∧ Bl w1 w') := fun w6 h6 => by
      refine (arrange_x (K5.out.step h6)).mono ?_
      rintro e w' (⟨_, rfl, hb⟩ | ⟨st, vo, h, _⟩)
      · exact ⟨rfl, hb⟩
      · rw [HA.out] at h; cases h
    go_wp2_with (first
      | (go_at_call 41; refine CT.out.mono ?_; clear CT; rintro e w' ⟨rfl, hw'⟩; rw [hw']; clear hw' w')
      | (go_at_call 42; refine CM.out.mono ?_; clear CM H1 H2 H3 H4 H5; rintro e w6 ⟨rfl, HB6⟩)
      | (go_at_call 44; refine (CA.out _ HB6).mono ?_; clear CA HB6; rintro e w7 ⟨rfl, HB7⟩; obtain ⟨H1, H2, H3, H4, H5⟩ := HH5.out _ HB7; have HR : Hid _ := H1; clear H1)
      | (refine wpList_store_row rfl 53 _ _ rfl (W.heap.size + 1) Z rfl rfl 53 Z HR.out (by rw [hz]; exact infoK) rfl h1 ?_))
    refine bodyPost_ret (results2_k rfl _ _ _ 53 Z (0, 0) _ rfl (setRow_heap _ _ _ _ _ _ HR.out) hum rfl (by rw [hz]; exact infoK)) rfl ?_
    rw [HSTP.out]
    exact Or.inl ⟨by decide, rfl, H4 _⟩
  refine AllReadyH.cons (o := _) rfl (fun K hK => ?_) ?_
  · go_simp
    refine hK.out _ _ (KP.out _ (((Bl.refl w1).drewN 1).alloc _)) (fun hHeld => ?_)
    clear hK K
    (try simp only [Act.put, List.getElem_toArray, List.getElem_cons_succ, List.getElem_cons_zero, List.setIfInBounds_toArray, List.set_cons_zero, List.set_cons_succ])
    refine wpAnyH_ready (rs := [2]) (by kernel_rfl) (by simp) ?_
    refine AllReadyH.cons (o := _) rfl (fun K hK => ?_) AllReadyH.nil
    go_simp
    go_at_call 40; refine (CN.out _ (((Bl.refl w1).drewN 1).alloc _)).mono ?_; rintro e w3 ⟨na, nc, rfl, HON, HB3⟩
    have HB4 : Bl w1 w3 := (((Bl.refl w1).drewN 1).alloc _).step HB3
    refine hK.out _ _ (KP.out _ HB4) (fun hHeld => ?_)
    clear hK K
    (try simp only [Act.put, List.getElem_toArray, List.getElem_cons_succ, List.getElem_cons_zero, List.setIfInBounds_toArray, List.set_cons_zero, List.set_cons_succ])
    refine wpAnyH_take (i := 3) (v := .agg (kC g sa sc aa ac (.slice na (TR.nm g).length nc) (.slice none 0 0) sZ).toArray) rfl (by kernel_rfl) (by kernel_rfl) (by kernel_rfl) (fun _ _ _ h => h) (yk_build (by kernel_rfl) rfl #[(0, .agg (gv g sa sc aa ac)), (1, .slice na (TR.nm g).length nc)] (by rfl) (fun w => build53 g sa aa sc ac na (TR.nm g).length nc w)) (by assumption) ?_
    simp only [Act.put, List.getElem_toArray, List.getElem_cons_succ, List.getElem_cons_zero, List.setIfInBounds_toArray, List.set_cons_zero, List.set_cons_succ]
    have HBK : Hid (w3.heap[w1.heap.size]? = some (.cells Z 53 (0, 0))) := by
      show _ = _
      rw [Below.block HB3 _ (by simp)]; exact heap_alloc_new w1.drew _
    have K5 : Hid (KX w1 w1.heap.size g sa sc aa ac (.slice na (TR.nm g).length nc) (.slice none 0 0) sZ (w3.setRow w1.heap.size (kC g sa sc aa ac (.slice na (TR.nm g).length nc) (.slice none 0 0) sZ).toArray)) := mkKX HB4 (Nat.le_refl _) HBK.out HON HGA.out hl1 hl2 HGK.out
    refine wpAnyH_ready (rs := [5]) (by kernel_rfl) (by simp) ?_
    refine AllReadyH.cons (o := _) rfl (fun K hK => ?_) AllReadyH.nil
    refine stepk_store_row rfl 53 _ _ rfl w1.heap.size (kC g sa sc aa ac (.slice na (TR.nm g).length nc) (.slice none 0 0) sZ).toArray (by rfl) (by rfl) 53 Z HBK.out (by rw [kC_size (by simp [sZ])]; exact infoK) (by rw [kC_size (by simp [sZ])]; exact hz) kC_one (hK.out _ _ (KP.out _ K5.out.v.bl) (fun hHeld => ?_))
    clear hK K
    (try simp only [Act.put, List.getElem_toArray, List.getElem_cons_succ, List.getElem_cons_zero, List.setIfInBounds_toArray, List.set_cons_zero, List.set_cons_succ])
    refine wpAnyH_done (by kernel_rfl) ?_ _
    refine NoPanic.normal ?_
    generalize w3.setRow w1.heap.size (kC g sa sc aa ac (.slice na (TR.nm g).length nc) (.slice none 0 0) sZ).toArray = W5 at *
    clear HBK HON HB3 HB4
    generalize hkb : w1.heap.size = kb at *
    clear hkb
    obtain ⟨H1, H2, H3, H4, H5⟩ := HH5.out _ K5.out.v.bl
    have hkb := K5.out.lt
    have CT : Hid (Calls Try.prog 41 #[.pointer (some ⟨kb, 0, none⟩)] W5 fun e w' => e = .returned (.bool false) ∧ w' = W5) := by
      have := hasTwins_at K5.out
      rw [HD.out] at this; exact this
    have CM : Hid (Calls Try.prog 42 #[.slice aa g.2.length ac, .func (.func 43) #[.pointer (some ⟨kb, 0, none⟩)] #[]] W5 fun e w' => e = .returned (.bool false) ∧ Bl W5 w') := by
      have := containsMiss K5.out
      rw [HM.out] at this; exact this
    have CA : Hid (∀ w6, Bl W5 w6 → Calls Try.prog 44 #[.pointer (some ⟨kb, 0, none⟩)] w6 fun e w' => e = .returned (.bool false) ∧ Bl w1 w') := fun w6 h6 => by
      refine (arrange_x (K5.out.step h6)).mono ?_
      rintro e w' (⟨_, rfl, hb⟩ | ⟨st, vo, h, _⟩)
      · exact ⟨rfl, hb⟩
      · rw [HA.out] at h; cases h
    go_wp2_with (first
      | (go_at_call 41; refine CT.out.mono ?_; clear CT; rintro e w' ⟨rfl, hw'⟩; rw [hw']; clear hw' w')
      | (go_at_call 42; refine CM.out.mono ?_; clear CM H1 H2 H3 H4 H5; rintro e w6 ⟨rfl, HB6⟩)
      | (go_at_call 44; refine (CA.out _ HB6).mono ?_; clear CA HB6; rintro e w7 ⟨rfl, HB7⟩; obtain ⟨H1, H2, H3, H4, H5⟩ := HH5.out _ HB7; have HR : Hid _ := H1; clear H1)
      | (refine wpList_store_row rfl 53 _ _ rfl (W.heap.size + 1) Z rfl rfl 53 Z HR.out (by rw [hz]; exact infoK) rfl h1 ?_))
    refine bodyPost_ret (results2_k rfl _ _ _ 53 Z (0, 0) _ rfl (setRow_heap _ _ _ _ _ _ HR.out) hum rfl (by rw [hz]; exact infoK)) rfl ?_
    rw [HSTP.out]
    exact Or.inl ⟨by decide, rfl, H4 _⟩
  exact AllReadyH.nil
set_option maxRecDepth 8000 in
set_option maxHeartbeats 4000000 in
theorem study_0 (g : RC.Gr) (sa : Option Addr) (sc : Nat) (aa : Option Addr) (ac : Nat) {w W : World} (HB : Bl w W) (hgw : GA w.heap.size w g sa sc aa ac) (hk : grOk g) (hc : RC.can g = true) (hd : (TR.nm g).Nodup) (hm : TR.miss g = false) (ha : TR.arr g g.2.length (TR.st0 g) = some (TR.fin g)) :
    Calls Try.prog 23 #[.agg (gv g sa sc aa ac)] W (StP w g sa sc aa ac) := by
  have hz := zk_size
  have h1 : zk.all (·.oneCell') = true := kC_one
  obtain ⟨fs, hum⟩ := undK
  have hzz : ∀ W, (zeroValue 53).run Try.prog W = .ok (.agg zk) W := zeroK
  have hbz : ∀ W, (Instr.build 53 #[]).run Try.prog W = .ok (.agg zk) W := build53z
  have HSTP : Hid (StP w g sa sc aa ac = fun e w' => (TR.chk g ≠ 0 ∧ e = .returned (.tuple #[.agg zk, .int .i64 (TR.chk g : Int)]) ∧ Bl w w') ∨ (TR.Good g ∧ ∃ vn vo, e = .returned (.tuple #[.agg (kC g sa sc aa ac vn vo (TR.fin g)).toArray, .int .i64 0]) ∧ KV w g sa sc aa ac vn vo (TR.fin g) w')) := rfl
  have hgW := hgw.bl HB
  have e1 : (W.alloc (.cells #[.slice sa g.1.length sc, .slice aa g.2.length ac] 25)).heap.size = W.heap.size + 1 := by simp
  have e2 : ∀ Z, ((W.alloc (.cells #[.slice sa g.1.length sc, .slice aa g.2.length ac] 25)).alloc (.cells Z 53)).heap.size = W.heap.size + 2 := fun Z => by simp
  have HH : Hid (∀ U, Bl ((W.alloc (.cells #[.slice sa g.1.length sc, .slice aa g.2.length ac] 25)).alloc (.cells zk 53)) U → U.heap[W.heap.size + 1]? = some (.cells zk 53 (0, 0)) ∧ U.cell? ⟨W.heap.size, 0, none⟩ = some (.slice sa g.1.length sc) ∧ U.cell? ⟨W.heap.size, 1, none⟩ = some (.slice aa g.2.length ac) ∧ W.heap.size + 1 < U.heap.size ∧ Bl w U ∧ ∀ C, Bl w (U.setRow (W.heap.size + 1) C)) := fun U hU => by
    have hs := Below.size hU
    rw [e2] at hs
    have hb1 : ((W.alloc (.cells #[.slice sa g.1.length sc, .slice aa g.2.length ac] 25)).alloc (.cells zk 53)).heap[W.heap.size + 1]? = some (.cells zk 53 (0, 0)) := by rw [← e1]; exact heap_alloc_new _ _
    have hb2 : ((W.alloc (.cells #[.slice sa g.1.length sc, .slice aa g.2.length ac] 25)).alloc (.cells zk 53)).heap[W.heap.size]? = some (.cells #[.slice sa g.1.length sc, .slice aa g.2.length ac] 25 (0, 0)) := by
      rw [Below.block ((Bl.refl (W.alloc (.cells #[.slice sa g.1.length sc, .slice aa g.2.length ac] 25))).alloc _) _ (by rw [e1]; omega)]; exact heap_alloc_new W _
    have hbw : Bl w U := ((HB.alloc _).alloc _).step hU
    have hwz : w.heap.size ≤ W.heap.size := Below.size HB
    refine ⟨by rw [Below.block hU _ (by rw [e2]; omega)]; exact hb1, ?_, ?_, by omega, hbw, fun C => below_setRow hbw (by omega) C⟩
    · rw [Bl.cell hU (by rw [e2]; omega), Lib.cell_of_heap hb2]; rfl
    · rw [Bl.cell hU (by rw [e2]; omega), Lib.cell_of_heap hb2]; rfl
  have CP : Hid (Calls Try.prog 39 #[.agg (gv g sa sc aa ac)] ((W.alloc (.cells #[.slice sa g.1.length sc, .slice aa g.2.length ac] 25)).alloc (.cells zk 53)) fun e w' => e = .returned (.tuple #[.string (M.bs (RC.text g)), .int .i64 0]) ∧ Bl ((W.alloc (.cells #[.slice sa g.1.length sc, .slice aa g.2.length ac] 25)).alloc (.cells zk 53)) w') := Print_yes g sa sc aa ac (Bl.refl _) (hgW.bl (((Bl.refl W).alloc _).alloc _)) hk hc
  have hl := TR.can_le hc
  have hl1 := hl.1
  have hl2 := hl.2
  have HGK : Hid (grOk g) := hk
  have HGW : Hid (∀ U, Bl ((W.alloc (.cells #[.slice sa g.1.length sc, .slice aa g.2.length ac] 25)).alloc (.cells zk 53)) U → GA U.heap.size U g sa sc aa ac) := fun U hU => (hgW.bl (((Bl.refl W).alloc _).alloc _)).bl hU
  have HGw : Hid (GA w.heap.size w g sa sc aa ac) := hgw
  have CNN : Hid (∀ w1 U, Bl ((W.alloc (.cells #[.slice sa g.1.length sc, .slice aa g.2.length ac] 25)).alloc (.cells zk 53)) w1 → Bl w1 U → Calls Try.prog 40 #[.agg (gv g sa sc aa ac)] U fun e w' => ∃ na nc, e = .returned (.slice na (TR.nm g).length nc) ∧ w'.ownsRow w1.heap.size 9 1 (.slice na (TR.nm g).length nc) (TR.nm g).length ((TR.nm g).map encS) ∧ Bl U w') := fun w1 U h0 hU => by
    refine (allNames_x g sa sc aa ac U ((hgW.bl (((Bl.refl W).alloc _).alloc _)).bl (h0.step hU)) hl1 hl2).mono ?_
    rintro e w' ⟨v, rfl, h3, h4⟩
    obtain ⟨na, nc, rfl⟩ := own_shape h3
    exact ⟨na, nc, rfl, ownsRow_base h3 (Below.size hU), h4⟩
  have HD : Hid ((!decide (TR.nm g).Nodup) = false) := by
    show _ = _
    simp [hd]
  have HM : Hid (TR.miss g = false) := hm
  have HA : Hid (TR.arr g g.2.length (TR.st0 g) = some (TR.fin g)) := ha
  have HGD : Hid (TR.Good g) := ⟨hc, hd, hm, ha⟩
  clear hd hm ha
  clear hgW hgw HB hk hc hl
  have hbz' := hbz
  generalize hZ : zk = Z at *
  generalize StP w g sa sc aa ac = PP at *
  go_enter Try.func23, Try.ntmps23
  unfold gv at CP ⊢
  go_wp2_with (first
    | (go_at_call 39; refine CP.out.mono ?_; clear CP; rintro e w1 ⟨rfl, HB1⟩; obtain ⟨H1, H2, H3, H4, H5, H6⟩ := HH.out _ HB1))
  have HGA : Hid (GA w1.heap.size w1 g sa sc aa ac) := HGW.out _ HB1
  have CN : Hid (∀ U, Bl w1 U → Calls Try.prog 40 #[.agg (gv g sa sc aa ac)] U fun e w' => ∃ na nc, e = .returned (.slice na (TR.nm g).length nc) ∧ w'.ownsRow w1.heap.size 9 1 (.slice na (TR.nm g).length nc) (TR.nm g).length ((TR.nm g).map encS) ∧ Bl U w') := fun U hU => CNN.out w1 U HB1 hU
  have KP : Hid (∀ U, Bl w1 U → U.cell? ⟨W.heap.size, 0, none⟩ = some (.slice sa g.1.length sc) ∧ U.cell? ⟨W.heap.size, 1, none⟩ = some (.slice aa g.2.length ac)) := fun U hU => ⟨(HH.out U (HB1.step hU)).2.1, (HH.out U (HB1.step hU)).2.2.1⟩
  have HH5 : Hid (∀ U, Bl w1 U → U.heap[W.heap.size + 1]? = some (.cells Z 53 (0, 0)) ∧ U.cell? ⟨W.heap.size, 1, none⟩ = some (.slice aa g.2.length ac) ∧ W.heap.size < U.heap.size ∧ (∀ C, Bl w (U.setRow (W.heap.size + 1) C)) ∧ Bl w U) := fun U hU => by
    obtain ⟨q1, q2, q3, q4, q5, q6⟩ := HH.out U (HB1.step hU)
    exact ⟨q1, q3, by omega, q6, q5⟩
  have HBw : Hid (Bl w w1) := H5
  clear H1 H2 H3 H4 H5 H6 HH CNN HGW HB1
  refine wp_region_noPanic ?_
  refine wp_region_held_drew (S := fun U => U.cell? ⟨W.heap.size, 0, none⟩ = some (.slice sa g.1.length sc) ∧ U.cell? ⟨W.heap.size, 1, none⟩ = some (.slice aa g.2.length ac)) (by kernel_rfl) (KP.out _ ((Bl.refl w1).drewN 1)) (fun hHeld => ?_)
  refine wpAnyH_take (i := 0) (v := ?_) rfl (by kernel_rfl) (by kernel_rfl) (by kernel_rfl) (fun _ _ _ h => h) (Or.inl ⟨by kernel_rfl, ?_⟩) (by assumption) ?_
  rotate_left
  · (intro w hSw; (try dsimp only at hSw); go_simp; (try with_reducible rfl))
  simp only [Act.put, List.getElem_toArray, List.getElem_cons_succ, List.getElem_cons_zero, List.setIfInBounds_toArray, List.set_cons_zero, List.set_cons_succ]
  refine wpAnyH_take (i := 1) (v := ?_) rfl (by kernel_rfl) (by kernel_rfl) (by kernel_rfl) (fun _ _ _ h => h) (Or.inl ⟨by kernel_rfl, ?_⟩) (by assumption) ?_
  rotate_left
  · (intro w hSw; (try dsimp only at hSw); go_simp; (try with_reducible rfl))
  simp only [Act.put, List.getElem_toArray, List.getElem_cons_succ, List.getElem_cons_zero, List.setIfInBounds_toArray, List.set_cons_zero, List.set_cons_succ]
  refine wpAnyH_ready (rs := [2, 4]) (by kernel_rfl) (by simp) ?_
  refine AllReadyH.cons (o := _) rfl (fun K hK => ?_) ?_
  · go_simp
    go_at_call 40; refine (CN.out _ ((Bl.refl w1).drewN 1)).mono ?_; rintro e w3 ⟨na, nc, rfl, HON, HB3⟩
    have HB4 : Bl w1 w3 := ((Bl.refl w1).drewN 1).step HB3
    refine hK.out _ _ (KP.out _ HB4) (fun hHeld => ?_)
    clear hK K
    (try simp only [Act.put, List.getElem_toArray, List.getElem_cons_succ, List.getElem_cons_zero, List.setIfInBounds_toArray, List.set_cons_zero, List.set_cons_succ])
    refine wpAnyH_take (i := 3) (v := .agg (kC g sa sc aa ac (.slice na (TR.nm g).length nc) (.slice none 0 0) sZ).toArray) rfl (by kernel_rfl) (by kernel_rfl) (by kernel_rfl) (fun _ _ _ h => h) (yk_build (by kernel_rfl) rfl #[(0, .agg (gv g sa sc aa ac)), (1, .slice na (TR.nm g).length nc)] (by rfl) (fun w => build53 g sa aa sc ac na (TR.nm g).length nc w)) (by assumption) ?_
    simp only [Act.put, List.getElem_toArray, List.getElem_cons_succ, List.getElem_cons_zero, List.setIfInBounds_toArray, List.set_cons_zero, List.set_cons_succ]
    refine wpAnyH_ready (rs := [4]) (by kernel_rfl) (by simp) ?_
    refine AllReadyH.cons (o := _) rfl (fun K hK => ?_) AllReadyH.nil
    go_simp
    refine hK.out _ _ (KP.out _ (HB4.alloc _)) (fun hHeld => ?_)
    clear hK K
    (try simp only [Act.put, List.getElem_toArray, List.getElem_cons_succ, List.getElem_cons_zero, List.setIfInBounds_toArray, List.set_cons_zero, List.set_cons_succ])
    have HBK : Hid ((w3.alloc (.cells Z 53)).heap[w3.heap.size]? = some (.cells Z 53 (0, 0))) := heap_alloc_new _ _
    have K5 : Hid (KX w1 w3.heap.size g sa sc aa ac (.slice na (TR.nm g).length nc) (.slice none 0 0) sZ ((w3.alloc (.cells Z 53)).setRow w3.heap.size (kC g sa sc aa ac (.slice na (TR.nm g).length nc) (.slice none 0 0) sZ).toArray)) := mkKX (HB4.alloc _) (Below.size HB4) HBK.out (ownsRow_belowT HON ((Bl.refl w3).alloc _)) HGA.out hl1 hl2 HGK.out
    refine wpAnyH_ready (rs := [5]) (by kernel_rfl) (by simp) ?_
    refine AllReadyH.cons (o := _) rfl (fun K hK => ?_) AllReadyH.nil
    refine stepk_store_row rfl 53 _ _ rfl w3.heap.size (kC g sa sc aa ac (.slice na (TR.nm g).length nc) (.slice none 0 0) sZ).toArray (by rfl) (by rfl) 53 Z HBK.out (by rw [kC_size (by simp [sZ])]; exact infoK) (by rw [kC_size (by simp [sZ])]; exact hz) kC_one (hK.out _ _ (KP.out _ K5.out.v.bl) (fun hHeld => ?_))
    clear hK K
    (try simp only [Act.put, List.getElem_toArray, List.getElem_cons_succ, List.getElem_cons_zero, List.setIfInBounds_toArray, List.set_cons_zero, List.set_cons_succ])
    refine wpAnyH_done (by kernel_rfl) ?_ _
    refine NoPanic.normal ?_
    generalize (w3.alloc (.cells Z 53)).setRow w3.heap.size (kC g sa sc aa ac (.slice na (TR.nm g).length nc) (.slice none 0 0) sZ).toArray = W5 at *
    clear HBK HON HB3 HB4
    generalize w3.heap.size = kb at *
    obtain ⟨H1, H2, H3, H4, H5⟩ := HH5.out _ K5.out.v.bl
    have hkb := K5.out.lt
    have CT : Hid (Calls Try.prog 41 #[.pointer (some ⟨kb, 0, none⟩)] W5 fun e w' => e = .returned (.bool false) ∧ w' = W5) := by
      have := hasTwins_at K5.out
      rw [HD.out] at this; exact this
    have CM : Hid (Calls Try.prog 42 #[.slice aa g.2.length ac, .func (.func 43) #[.pointer (some ⟨kb, 0, none⟩)] #[]] W5 fun e w' => e = .returned (.bool false) ∧ Bl W5 w') := by
      have := containsMiss K5.out
      rw [HM.out] at this; exact this
    have CA : Hid (∀ w6, Bl W5 w6 → Calls Try.prog 44 #[.pointer (some ⟨kb, 0, none⟩)] w6 fun e w' => e = .returned (.bool true) ∧ ∃ oa oc, KX w1 kb g sa sc aa ac (.slice na (TR.nm g).length nc) (.slice oa (TR.fin g).order.length oc) (TR.fin g) w') := fun w6 h6 => by
      refine (arrange_x (K5.out.step h6)).mono ?_
      rintro e w' (⟨h, _⟩ | ⟨st, vo, h, rfl, hx⟩)
      · rw [HA.out] at h; cases h
      · rw [HA.out] at h; cases h
        obtain ⟨oa, oc, rfl⟩ := own_shape hx.v.o
        exact ⟨rfl, oa, oc, hx⟩
    go_wp2_with (first
      | (go_at_call 41; refine CT.out.mono ?_; clear CT; rintro e w' ⟨rfl, hw'⟩; rw [hw']; clear hw' w')
      | (go_at_call 42; refine CM.out.mono ?_; clear CM H1 H2 H3 H4 H5; rintro e w6 ⟨rfl, HB6⟩)
      | (go_at_call 44; refine (CA.out _ HB6).mono ?_; clear CA HB6; rintro e w7 ⟨rfl, oa, oc, KX7⟩; have HX7 : Hid _ := KX7; obtain ⟨H1, H2, H3, H4, H5⟩ := HH5.out _ KX7.v.bl; have HR : Hid _ := H1; clear H1 KX7)
      | (refine wpList_load_row rfl 53 _ rfl kb rfl 53 _ (0, 0) _ HX7.out.blk hum rfl (by rw [kC_size HX7.out.v.len]; exact infoK) ?_)
      | (refine wpList_store_row rfl 53 _ _ rfl (W.heap.size + 1) (kC g sa sc aa ac (.slice na (TR.nm g).length nc) (.slice oa (TR.fin g).order.length oc) (TR.fin g)).toArray rfl rfl 53 Z HR.out (by rw [kC_size HX7.out.v.len]; exact infoK) (by rw [kC_size HX7.out.v.len]; exact hz) kC_one ?_))
    refine bodyPost_ret (results2_k rfl _ _ _ 53 _ (0, 0) _ rfl (setRow_heap _ _ _ _ _ _ HR.out) hum rfl (by rw [kC_size HX7.out.v.len]; exact infoK)) rfl ?_
    rw [HSTP.out]
    refine Or.inr ⟨HGD.out, _, _, rfl, ?_⟩
    have HV := KV.outer HX7.out.v HBw.out HGw.out
    exact ⟨ownsRow_setRowK HV.n HR.out (by decide), ownsRow_setRowK HV.o HR.out (by decide), HV.ga, H4 _, HV.len, HV.l1, HV.l2, HV.ol, HV.olt, HV.tl, HV.ndl, HV.gk⟩
  refine AllReadyH.cons (o := _) rfl (fun K hK => ?_) ?_
  · go_simp
    refine hK.out _ _ (KP.out _ (((Bl.refl w1).drewN 1).alloc _)) (fun hHeld => ?_)
    clear hK K
    (try simp only [Act.put, List.getElem_toArray, List.getElem_cons_succ, List.getElem_cons_zero, List.setIfInBounds_toArray, List.set_cons_zero, List.set_cons_succ])
    refine wpAnyH_ready (rs := [2]) (by kernel_rfl) (by simp) ?_
    refine AllReadyH.cons (o := _) rfl (fun K hK => ?_) AllReadyH.nil
    go_simp
    go_at_call 40; refine (CN.out _ (((Bl.refl w1).drewN 1).alloc _)).mono ?_; rintro e w3 ⟨na, nc, rfl, HON, HB3⟩
    have HB4 : Bl w1 w3 := (((Bl.refl w1).drewN 1).alloc _).step HB3
    refine hK.out _ _ (KP.out _ HB4) (fun hHeld => ?_)
    clear hK K
    (try simp only [Act.put, List.getElem_toArray, List.getElem_cons_succ, List.getElem_cons_zero, List.setIfInBounds_toArray, List.set_cons_zero, List.set_cons_succ])
    refine wpAnyH_take (i := 3) (v := .agg (kC g sa sc aa ac (.slice na (TR.nm g).length nc) (.slice none 0 0) sZ).toArray) rfl (by kernel_rfl) (by kernel_rfl) (by kernel_rfl) (fun _ _ _ h => h) (yk_build (by kernel_rfl) rfl #[(0, .agg (gv g sa sc aa ac)), (1, .slice na (TR.nm g).length nc)] (by rfl) (fun w => build53 g sa aa sc ac na (TR.nm g).length nc w)) (by assumption) ?_
    simp only [Act.put, List.getElem_toArray, List.getElem_cons_succ, List.getElem_cons_zero, List.setIfInBounds_toArray, List.set_cons_zero, List.set_cons_succ]
    have HBK : Hid (w3.heap[w1.heap.size]? = some (.cells Z 53 (0, 0))) := by
      show _ = _
      rw [Below.block HB3 _ (by simp)]; exact heap_alloc_new w1.drew _
    have K5 : Hid (KX w1 w1.heap.size g sa sc aa ac (.slice na (TR.nm g).length nc) (.slice none 0 0) sZ (w3.setRow w1.heap.size (kC g sa sc aa ac (.slice na (TR.nm g).length nc) (.slice none 0 0) sZ).toArray)) := mkKX HB4 (Nat.le_refl _) HBK.out HON HGA.out hl1 hl2 HGK.out
    refine wpAnyH_ready (rs := [5]) (by kernel_rfl) (by simp) ?_
    refine AllReadyH.cons (o := _) rfl (fun K hK => ?_) AllReadyH.nil
    refine stepk_store_row rfl 53 _ _ rfl w1.heap.size (kC g sa sc aa ac (.slice na (TR.nm g).length nc) (.slice none 0 0) sZ).toArray (by rfl) (by rfl) 53 Z HBK.out (by rw [kC_size (by simp [sZ])]; exact infoK) (by rw [kC_size (by simp [sZ])]; exact hz) kC_one (hK.out _ _ (KP.out _ K5.out.v.bl) (fun hHeld => ?_))
    clear hK K
    (try simp only [Act.put, List.getElem_toArray, List.getElem_cons_succ, List.getElem_cons_zero, List.setIfInBounds_toArray, List.set_cons_zero, List.set_cons_succ])
    refine wpAnyH_done (by kernel_rfl) ?_ _
    refine NoPanic.normal ?_
    generalize w3.setRow w1.heap.size (kC g sa sc aa ac (.slice na (TR.nm g).length nc) (.slice none 0 0) sZ).toArray = W5 at *
    clear HBK HON HB3 HB4
    generalize hkb : w1.heap.size = kb at *
    clear hkb
    obtain ⟨H1, H2, H3, H4, H5⟩ := HH5.out _ K5.out.v.bl
    have hkb := K5.out.lt
    have CT : Hid (Calls Try.prog 41 #[.pointer (some ⟨kb, 0, none⟩)] W5 fun e w' => e = .returned (.bool false) ∧ w' = W5) := by
      have := hasTwins_at K5.out
      rw [HD.out] at this; exact this
    have CM : Hid (Calls Try.prog 42 #[.slice aa g.2.length ac, .func (.func 43) #[.pointer (some ⟨kb, 0, none⟩)] #[]] W5 fun e w' => e = .returned (.bool false) ∧ Bl W5 w') := by
      have := containsMiss K5.out
      rw [HM.out] at this; exact this
    have CA : Hid (∀ w6, Bl W5 w6 → Calls Try.prog 44 #[.pointer (some ⟨kb, 0, none⟩)] w6 fun e w' => e = .returned (.bool true) ∧ ∃ oa oc, KX w1 kb g sa sc aa ac (.slice na (TR.nm g).length nc) (.slice oa (TR.fin g).order.length oc) (TR.fin g) w') := fun w6 h6 => by
      refine (arrange_x (K5.out.step h6)).mono ?_
      rintro e w' (⟨h, _⟩ | ⟨st, vo, h, rfl, hx⟩)
      · rw [HA.out] at h; cases h
      · rw [HA.out] at h; cases h
        obtain ⟨oa, oc, rfl⟩ := own_shape hx.v.o
        exact ⟨rfl, oa, oc, hx⟩
    go_wp2_with (first
      | (go_at_call 41; refine CT.out.mono ?_; clear CT; rintro e w' ⟨rfl, hw'⟩; rw [hw']; clear hw' w')
      | (go_at_call 42; refine CM.out.mono ?_; clear CM H1 H2 H3 H4 H5; rintro e w6 ⟨rfl, HB6⟩)
      | (go_at_call 44; refine (CA.out _ HB6).mono ?_; clear CA HB6; rintro e w7 ⟨rfl, oa, oc, KX7⟩; have HX7 : Hid _ := KX7; obtain ⟨H1, H2, H3, H4, H5⟩ := HH5.out _ KX7.v.bl; have HR : Hid _ := H1; clear H1 KX7)
      | (refine wpList_load_row rfl 53 _ rfl kb rfl 53 _ (0, 0) _ HX7.out.blk hum rfl (by rw [kC_size HX7.out.v.len]; exact infoK) ?_)
      | (refine wpList_store_row rfl 53 _ _ rfl (W.heap.size + 1) (kC g sa sc aa ac (.slice na (TR.nm g).length nc) (.slice oa (TR.fin g).order.length oc) (TR.fin g)).toArray rfl rfl 53 Z HR.out (by rw [kC_size HX7.out.v.len]; exact infoK) (by rw [kC_size HX7.out.v.len]; exact hz) kC_one ?_))
    refine bodyPost_ret (results2_k rfl _ _ _ 53 _ (0, 0) _ rfl (setRow_heap _ _ _ _ _ _ HR.out) hum rfl (by rw [kC_size HX7.out.v.len]; exact infoK)) rfl ?_
    rw [HSTP.out]
    refine Or.inr ⟨HGD.out, _, _, rfl, ?_⟩
    have HV := KV.outer HX7.out.v HBw.out HGw.out
    exact ⟨ownsRow_setRowK HV.n HR.out (by decide), ownsRow_setRowK HV.o HR.out (by decide), HV.ga, H4 _, HV.len, HV.l1, HV.l2, HV.ol, HV.olt, HV.tl, HV.ndl, HV.gk⟩
  exact AllReadyH.nil
theorem study_x (g : RC.Gr) (sa : Option Addr) (sc : Nat) (aa : Option Addr) (ac : Nat) {w W : World} (HB : Bl w W) (hgw : GA w.heap.size w g sa sc aa ac) (hk : grOk g) :
    Calls Try.prog 23 #[.agg (gv g sa sc aa ac)] W (StP w g sa sc aa ac) := by
  by_cases hc : RC.can g = false
  · exact study_1 g sa sc aa ac HB hgw hk hc
  have hc' : RC.can g = true := by simpa using hc
  by_cases hd : (TR.nm g).Nodup
  · by_cases hm : TR.miss g = true
    · exact study_22 g sa sc aa ac HB hgw hk hc' hd hm
    · have hm' : TR.miss g = false := by simpa using hm
      cases ha : TR.arr g g.2.length (TR.st0 g) with
      | none => exact study_23 g sa sc aa ac HB hgw hk hc' hd hm' ha
      | some st =>
        have e : TR.fin g = st := by unfold TR.fin; rw [ha]; rfl
        rw [← e] at ha
        exact study_0 g sa sc aa ac HB hgw hk hc' hd hm' ha
  · exact study_21 g sa sc aa ac HB hgw hk hc' hd
end Go.Proofs.Ythpdmeoljdmncaa
