/- trellis: Check, Order. -/
import Derived.Test.YthpdmeoljdmncaaZ7
namespace Go.Proofs.Ythpdmeoljdmncaa
open Go.RowKit
set_option linter.unusedVariables false
set_option linter.unusedSimpArgs false

/-- of which build something is known, and what -/
def KR (g g' : RC.Gr) (st : TR.St) : Prop := (TR.Good g ∧ g' = g ∧ st = TR.fin g) ∨ (TR.chk g ≠ 0 ∧ g' = ([], []) ∧ st = sZ)
theorem study_k (g : RC.Gr) (sa : Option Addr) (sc : Nat) (aa : Option Addr) (ac : Nat) {w W : World} (HB : Bl w W) (hgw : GA w.heap.size w g sa sc aa ac) (hk : grOk g) :
    Calls Try.prog 23 #[.agg (gv g sa sc aa ac)] W fun e w' => ∃ g' sa' sc' aa' ac' na nn nc oa on oc st, e = .returned (.tuple #[.agg (kC g' sa' sc' aa' ac' (.slice na nn nc) (.slice oa on oc) st).toArray, .int .i64 (TR.chk g : Int)]) ∧ KV w g' sa' sc' aa' ac' (.slice na nn nc) (.slice oa on oc) st w' ∧ KR g g' st := by
  refine (study_x g sa sc aa ac HB hgw hk).mono ?_
  rintro e w' (⟨h, rfl, hb⟩ | ⟨h, vn, vo, rfl, hv⟩)
  · exact ⟨_, _, _, _, _, _, _, _, _, _, _, _, rfl, kv_zero hb, Or.inr ⟨h, rfl, rfl⟩⟩
  · obtain ⟨na, nc, rfl⟩ := own_shape hv.n
    obtain ⟨oa, oc, rfl⟩ := own_shape hv.o
    exact ⟨g, sa, sc, aa, ac, na, _, nc, oa, _, oc, _, by rw [TR.chk_zero.2 h]; rfl, hv, Or.inl ⟨h, rfl, rfl⟩⟩
theorem KV.put {w W : World} {g : RC.Gr} {sa aa na oa : Option Addr} {sc ac nn nc on oc : Nat} {st : TR.St} (h : KV w g sa sc aa ac (.slice na nn nc) (.slice oa on oc) st W) (Z : Array Value) (hz : Z.size = 17) :
    KX w W.heap.size g sa sc aa ac (.slice na nn nc) (.slice oa on oc) st ((W.alloc (.cells Z 53)).setRow W.heap.size (kC g sa sc aa ac (.slice na nn nc) (.slice oa on oc) st).toArray) := by
  have h1 := h.step ((Bl.refl W).alloc (.cells Z 53))
  have hn : (W.alloc (.cells Z 53)).heap[W.heap.size]? = some (.cells Z 53 (0, 0)) := heap_alloc_new _ _
  have hs := Below.size h.bl
  exact ⟨⟨ownsRow_setRowK h1.n hn (by decide), ownsRow_setRowK h1.o hn (by decide), h.ga, below_setRow h1.bl hs _, h.len, h.l1, h.l2, h.ol, h.olt, h.tl, h.ndl, h.gk⟩, setRow_heap _ _ _ _ _ _ hn, hs⟩
/-- numbers in memory -/
def IA (w : World) (a : Option Addr) (l : List Nat) : Prop := ∀ (i x : Nat), l[i]? = some x → ∃ b off, a = some ⟨b, off, none⟩ ∧ b < w.heap.size ∧ w.cell? ⟨b, off + i, none⟩ = some (.int .i64 (x : Int))
theorem IA.bl {w w' : World} {a : Option Addr} {l : List Nat} (h : IA w a l) (hb : Bl w w') : IA w' a l := fun i x hx => by
  obtain ⟨b, off, h1, h2, h3⟩ := h i x hx
  exact ⟨b, off, h1, Nat.lt_of_lt_of_le h2 (Below.size hb), by rw [Bl.cell hb h2]; exact h3⟩
theorem ia_of {N : Nat} {w : World} {v : Value} {l : List Nat} (h : w.ownsRow N 3 1 v l.length (l.map encI)) : ∃ a c, v = .slice a l.length c ∧ IA w a l := by
  obtain ⟨h0, ⟨rfl, h1⟩ | ⟨g', cap, cur, rfl, _, h3, h4, h5, h6, h7⟩⟩ := h
  · have : l = [] := List.length_eq_zero_iff.1 h1
    exact ⟨none, 0, by rw [h1], fun i x hx => by rw [this] at hx; simp at hx⟩
  · refine ⟨some ⟨g', 0, none⟩, cap, rfl, fun i x hx => ⟨g', 0, rfl, TA.lt_heap h3, ?_⟩⟩
    rw [Lib.cell_of_heap h3, Nat.zero_add]
    have hi : i < l.length := (List.getElem?_eq_some_iff.1 hx).1
    have h8 : (cur.toList.take (l.length * 1))[i]? = (l.map encI)[i]? := by rw [h7]
    rw [List.getElem?_take_of_lt (by omega), List.getElem?_map, hx] at h8
    simpa [encI] using h8

set_option maxRecDepth 8000 in
set_option maxHeartbeats 2000000 in
theorem Check_x (g : RC.Gr) (sa : Option Addr) (sc : Nat) (aa : Option Addr) (ac : Nat) {w W : World} (HB : Bl w W) (hg : GA W.heap.size W g sa sc aa ac) (hk : grOk g) :
    Calls Try.prog 11 #[.agg (gv g sa sc aa ac)] W fun e w' => e = .returned (.int .i64 (TR.chk g : Int)) ∧ Bl w w' := by
  have hz := zk_size
  have hzz : ∀ W, (zeroValue 53).run Try.prog W = .ok (.agg zk) W := zeroK
  have CS : Hid (∀ o, Calls Try.prog 23 #[.agg (gv g sa sc aa ac)] (W.alloc o) fun e w' => ∃ g' sa' sc' aa' ac' na nn nc oa on oc st, e = .returned (.tuple #[.agg (kC g' sa' sc' aa' ac' (.slice na nn nc) (.slice oa on oc) st).toArray, .int .i64 (TR.chk g : Int)]) ∧ KV W g' sa' sc' aa' ac' (.slice na nn nc) (.slice oa on oc) st w' ∧ KR g g' st) := fun o =>
    study_k g sa sc aa ac ((Bl.refl W).alloc o) hg hk
  have HB0 : Hid (Bl w W) := HB
  clear HB hg hk
  generalize TR.chk g = ck at *
  generalize zk = Z at *
  unfold gv at CS ⊢
  go_enter Try.func11, Try.ntmps11
  go_wp2_with (first
    | (go_at_call 23; refine (CS.out _).mono ?_; clear CS; rintro e w1 ⟨g', sa', sc', aa', ac', na, nn, nc, oa, on, oc, st, rfl, HV, HR⟩; have hkl := kC_size (g := g') (sa := sa') (aa := aa') (sc := sc') (ac := ac') (vn := .slice na nn nc) (vo := .slice oa on oc) HV.len; have hko := kC_one (g := g') (sa := sa') (aa := aa') (sc := sc') (ac := ac') (a1 := na) (n1 := nn) (c1 := nc) (a2 := oa) (n2 := on) (c2 := oc) (st := st); have KP : Hid _ := (HV.put Z hz).v.bl; have HN : Hid ((w1.alloc (.cells Z 53)).heap[w1.heap.size]? = some (.cells Z 53 (0, 0))) := heap_alloc_new _ _; clear HV HR; generalize (kC g' sa' sc' aa' ac' (.slice na nn nc) (.slice oa on oc) st).toArray = KC at *)
    | (refine wpList_store_row rfl 53 _ _ rfl w1.heap.size KC rfl rfl 53 Z HN.out (by rw [hkl]; exact infoK) (by rw [hkl]; exact hz) hko ?_))
  go_ret
  exact ⟨rfl, HB0.out.step KP.out⟩

theorem KR.order {g g' : RC.Gr} {st : TR.St} (h : KR g g' st) : st.order = if TR.chk g = 0 then (TR.fin g).order else [] := by
  rcases h with ⟨h, rfl, rfl⟩ | ⟨h, rfl, rfl⟩
  · rw [if_pos (TR.chk_zero.2 h)]
  · rw [if_neg h]; rfl
/-- what Order answers -/
def ordL (g : RC.Gr) : List Nat := if TR.chk g = 0 then (TR.fin g).order else []
set_option maxRecDepth 8000 in
set_option maxHeartbeats 2000000 in
theorem Order_x (g : RC.Gr) (sa : Option Addr) (sc : Nat) (aa : Option Addr) (ac : Nat) {w W : World} (HB : Bl w W) (hg : GA W.heap.size W g sa sc aa ac) (hk : grOk g) :
    Calls Try.prog 14 #[.agg (gv g sa sc aa ac)] W fun e w' => ∃ a c, e = .returned (.slice a (ordL g).length c) ∧ IA w' a (ordL g) ∧ Bl w w' := by
  have hz := zk_size
  have hzz : ∀ W, (zeroValue 53).run Try.prog W = .ok (.agg zk) W := zeroK
  have CS : Hid (∀ o, Calls Try.prog 23 #[.agg (gv g sa sc aa ac)] (W.alloc o) fun e w' => ∃ g' sa' sc' aa' ac' na nn nc oa on oc st, e = .returned (.tuple #[.agg (kC g' sa' sc' aa' ac' (.slice na nn nc) (.slice oa on oc) st).toArray, .int .i64 (TR.chk g : Int)]) ∧ KV W g' sa' sc' aa' ac' (.slice na nn nc) (.slice oa on oc) st w' ∧ KR g g' st) := fun o =>
    study_k g sa sc aa ac ((Bl.refl W).alloc o) hg hk
  have HB0 : Hid (Bl w W) := HB
  clear HB hg hk
  generalize zk = Z at *
  unfold gv at CS ⊢
  go_enter Try.func14, Try.ntmps14
  go_wp2_with (first
    | (go_at_call 23; refine (CS.out _).mono ?_; clear CS; rintro e w1 ⟨g', sa', sc', aa', ac', na, nn, nc, oa, on, oc, st, rfl, HV, HR⟩; have hkl := kC_size (g := g') (sa := sa') (aa := aa') (sc := sc') (ac := ac') (vn := .slice na nn nc) (vo := .slice oa on oc) HV.len; have hko := kC_one (g := g') (sa := sa') (aa := aa') (sc := sc') (ac := ac') (a1 := na) (n1 := nn) (c1 := nc) (a2 := oa) (n2 := on) (c2 := oc) (st := st); have KP : Hid _ := HV.put Z hz; have HKR : Hid _ := HR.order; have HN : Hid ((w1.alloc (.cells Z 53)).heap[w1.heap.size]? = some (.cells Z 53 (0, 0))) := heap_alloc_new _ _; have c4 := KP.out.c4; have hlt := KP.out.lt; clear HV HR; generalize (kC g' sa' sc' aa' ac' (.slice na nn nc) (.slice oa on oc) st).toArray = KC at *)
    | (refine wpList_store_row rfl 53 _ _ rfl w1.heap.size KC rfl rfl 53 Z HN.out (by rw [hkl]; exact infoK) (by rw [hkl]; exact hz) hko ?_))
  go_ret
  obtain ⟨a, c, e1, e2⟩ := ia_of KP.out.v.o
  have e3 : st.order = ordL g := HKR.out
  rw [e3] at e1 e2
  exact ⟨a, c, by rw [← e1]; rfl, e2, HB0.out.step KP.out.v.bl⟩
end Go.Proofs.Ythpdmeoljdmncaa
