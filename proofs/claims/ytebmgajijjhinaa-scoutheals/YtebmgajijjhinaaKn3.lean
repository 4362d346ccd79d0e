/- What Merge and New make. -/
import Derived.Test.YtebmgajijjhinaaKn2
namespace Go.Proofs.Ytebmgajijjhinaa
open Go.RowKit Go.Maps
set_option linter.unusedVariables false
set_option linter.unusedSimpArgs false

theorem infoMe3 : (Try.prog.info? 54).map (fun i => (i.zero, i.size, i.bytes)) = some (some (.agg #[.int .i64 0, .int .i64 0, .int .i64 0]), 3, 24) := by kernel_rfl
theorem undMs : Try.prog.underlying 46 = some (.slice 54) := Try.underlying46
theorem Merge_nil (v : Value) (W : World) : Calls Try.prog 49 #[.pointer none, v] W fun e w' => e = .returned (.slice none 0 0) ∧ Bl W w' := by
  go_enter Try.func49, Try.ntmps49
  go_wp2_with fail
  go_ret
  exact ⟨rfl, Bl.refl W⟩
theorem own_of1 {B n k mb : Nat} {e : TypeId} {v : Value} {xs : List Value} {w w' : World} (h : w.ownsRow B e k v n xs) (ho : Of1 mb w w') (hm : mb < B) : w'.ownsRow B e k v n xs := by
  obtain ⟨h0, h1 | ⟨g, cap, cur, h1, h2, h3, h4⟩⟩ := h
  · exact ⟨h0, Or.inl h1⟩
  · exact ⟨h0, Or.inr ⟨g, cap, cur, h1, h2, by rw [ho.block g (lt_heap h3) (by omega)]; exact h3, h4⟩⟩
/-- one more is appended to a row of one's own -/
theorem wl_app1N {α : Type} (E : Lay α) {ops : Array Oper} {rest : List Oper} {o : Oper} {a : Act} {W U : World} {Q : Exit → Act → World → Prop} (T TS : TypeId) (z : Value) (bytes : Nat)
    (hund : Try.prog.underlying TS = some (.slice T)) (hinfo : (Try.prog.info? T).map (fun i => (i.zero, i.size, i.bytes)) = some (some z, E.k, bytes)) (hzc : z.cells.size = E.k) (hby : bytes ≤ 4096)
    (hgd : o.guard = none) (s x : Operand) (ho : o.op = .call { callee := .builtin .append, args := #[s, x], argTypes := #[TS, TS] }) (B n : Nat) (ks : List α) (hnk : n = ks.length) (t : α) (v : Value) (hs : a.eval s = v) (hB : B ≤ W.heap.size) (hown : W.ownsRow B T E.k v n (flG E ks))
    (hx : a.eval x = .slice (some ⟨W.heap.size, 0, none⟩) 1 1) (hn : n ≤ 90000)
    (h : ∀ a' c' w', w'.ownsRow B T E.k (.slice a' (n + 1) c') (n + 1) (flG E (ks ++ [t])) → W.grownBy w' v.ownBlock → wpList Try.prog ops Q rest (a.put o.dst (.slice a' (n + 1) c')) w') (C : Array Value) (hC : C = (E.f t).toArray) (hU : U = W.alloc (.cells C T)) : wpList Try.prog ops Q (o :: rest) a U := by
  subst hnk hU hC
  obtain ⟨i0, hi0, hz0, hz1, hz2⟩ := info_partsT hinfo
  have hsz : B ≤ (W.alloc (.cells (E.f t).toArray T)).heap.size := by simp; omega
  have hk := E.pos
  refine wpList_append_lies _ hgd s x TS ho B T i0 z E.k bytes hund hi0 hz0 hz1 hz2 hzc ?_ v ks.length (flG E ks) hs (ownsRow_bl hown ((Bl.refl W).alloc _)) ⟨W.heap.size, 0, none⟩ 1 1 (E.f t) hx (by rw [E.len]; omega) (fun j u hu => ?_) (E.one t) (by omega) (by unfold maxLen; omega) ?_ hsz _ rfl (fun g cap w' h1 h2 h3 h4 => ?_)
  · omega
  · rw [Addr.add_mid, Lib.cell_of_heap (heap_alloc_new W _), Nat.zero_add]
    simpa using hu
  · have : (ks.length + 1) * bytes ≤ 90001 * 4096 := Nat.mul_le_mul (by omega) hby
    omega
  · refine h _ _ w' (by rw [flG_app]; simpa [flG] using h1) ?_
    exact (World.grownBy_alloc W _ _).trans h2
/-- what is in the middle of a merge: so many words have come -/
structure MG (w W0 : World) (q b : Nat) (f : K.Vw) (N : Nat) (l : List K.Me) (k : Nat) (v : Value) (W : World) : Prop where
  vt : VT w q b (K.mrg f (l.take k)) (N + k) W
  of : Of1 b W0 W
  own : W.ownsRow W0.heap.size 54 3 v (K.tak f (l.take k)).length (flG lyM (K.tak f (l.take k)))
theorem VT.grown {w W0 W W' : World} {q b : Nat} {f : K.Vw} {N : Nat} (x : VT w q b f N W) (h0 : Of1 b W0 W) (hq : q < W0.heap.size) (hb : b < W0.heap.size) {v : Value} {n : Nat} {T : TypeId} {k : Nat} {xs : List Value} (ho : W.ownsRow W0.heap.size T k v n xs) (hg : W.grownBy W' v.ownBlock) (hw : w.heap.size ≤ W0.heap.size) : VT w q b f N W' ∧ Of1 b W0 W' := by
  have hge : ∀ g, v.ownBlock = some g → W0.heap.size ≤ g := fun g e => (owns_ge ho e).1
  have bk : ∀ i, i < W0.heap.size → W'.heap[i]? = W.heap[i]? := fun i hi => hg.block i (Nat.lt_of_lt_of_le hi h0.size) (fun e => by have := hge i e.symm; omega)
  refine ⟨⟨by rw [bk q hq]; exact x.row, x.mp.block (bk b hb), x.q0, x.b0, ?_⟩, ?_⟩
  · exact ⟨hg.os.trans x.bl.os, hg.tape.trans x.bl.tape, hg.output.trans x.bl.output, Nat.le_trans x.bl.size hg.size, fun i hi => (bk i (by omega)).trans (x.bl.block i hi)⟩
  · exact ⟨hg.os.trans h0.os, hg.tape.trans h0.tape, hg.output.trans h0.output, Nat.le_trans h0.size hg.size, fun i hi hb => (bk i hi).trans (h0.block i hi hb)⟩
theorem stp_yes {f : K.Vw} {m : K.Me} (h : K.news f m = true) : K.stp f m = fun k => if k = m.1 then some m else f k := by unfold K.stp; rw [if_pos h]
theorem stp_no {f : K.Vw} {m : K.Me} (h : K.news f m = false) : K.stp f m = f := by unfold K.stp; rw [if_neg (by rw [h]; decide)]
set_option maxRecDepth 8000 in
set_option maxHeartbeats 4000000 in
theorem Merge_x {w W : World} {q b : Nat} {f : K.Vw} {N : Nat} (x : VT w q b f N W) (l : List K.Me) (a : Option Addr) (c : Nat) (hv : RS lyM W a l) (hl : l.length ≤ 1000) (hN : N ≤ 100000000000) (hok : ∀ m ∈ l, i64 m.1) :
    Calls Try.prog 49 #[.pointer (some ⟨q, 0, none⟩), .slice a l.length c] W fun e w' => ∃ a' c', e = .returned (.slice a' (K.tak f l).length c') ∧ RS lyM w' a' (K.tak f l) ∧ VT w q b (K.mrg f l) (N + l.length) w' ∧ Of1 b W w' := by
  have HX : Hid (VT w q b f N W) := x
  have HV : Hid (RS lyM W a l) := hv
  have HO : Hid (∀ m ∈ l, i64 m.1) := hok
  have hq := lt_heap x.row
  have hb := x.mp.lt
  have hw : w.heap.size ≤ W.heap.size := Below.size x.bl
  obtain ⟨fs, hum⟩ := undMe
  clear x hv hok
  go_enter Try.func49, Try.ntmps49
  go_wp2_with fail
  go_loopw [5, 12] (fun u5 u12 wr => ∃ k : Nat, k ≤ l.length ∧ u12 = .int .i64 k ∧ MG w W q b f N l k u5 wr) (fun _ u12 _ => l.length - (intOf u12).toNat)
  case atStart => exact ⟨0, Nat.zero_le _, rfl, ⟨HX.out, Of1.refl _ _, ⟨rfl, Or.inl ⟨rfl, rfl⟩⟩⟩⟩
  case round =>
    obtain ⟨k, hk, rfl, hx⟩ := hrel
    by_cases hlt : k < l.length
    · obtain ⟨m, hm⟩ : ∃ m, l[k]? = some m := ⟨l[k], List.getElem?_eq_getElem hlt⟩
      obtain ⟨es, cl, hmp⟩ := HX.out.mp.isMap
      obtain ⟨b2, off, rfl, hb2, hrg⟩ := (HV.out.off hx.of hmp) k m hm
      have hmi := HO.out m (List.mem_of_getElem? hm)
      have HM : Hid (K.mrg f (l.take (k + 1)) = K.stp (K.mrg f (l.take k)) m) := K.mrg_take hm
      have HT : Hid (K.tak f (l.take (k + 1)) = K.tak f (l.take k) ++ if K.news (K.mrg f (l.take k)) m = true then [m] else []) := K.tak_take hm
      have htl : (K.tak f (l.take k)).length ≤ k := Nat.le_trans (K.tak_len _ _) (by rw [List.length_take]; omega)
      obtain ⟨F, hF⟩ : ∃ F, K.mrg f (l.take k) = F := ⟨_, rfl⟩
      obtain ⟨TK, hTK⟩ : ∃ F, K.tak f (l.take k) = F := ⟨_, rfl⟩
      have HVT : Hid (VT w q b F (N + k) wr) := by rw [← hF]; exact hx.vt
      have HOF : Hid (Of1 b W wr) := hx.of
      have HOW : Hid (wr.ownsRow W.heap.size 54 3 u5 TK.length (flG lyM TK)) := by rw [← hTK]; exact hx.own
      rw [hF] at HM HT
      rw [hTK] at HT htl
      have HW : Hid (∀ v W', VT w q b (K.mrg f (l.take (k + 1))) (N + (k + 1)) W' → Of1 b W W' → W'.ownsRow W.heap.size 54 3 v (K.tak f (l.take (k + 1))).length (flG lyM (K.tak f (l.take (k + 1)))) → MG w W q b f N l (k + 1) v W') := fun v W' h1 h2 h3 => ⟨h1, h2, h3⟩
      have HWS : Hid (W.heap.size ≤ wr.heap.size) := hx.of.size
      clear hx hF hTK HX HV HO hmp hm
      obtain ⟨n, i, s⟩ := m
      have HR : Hid (wr.rangeAt b2 (off + k * 3) [.int .i64 n, .int .i64 i, .int .i64 s]) := hrg
      have x1 := HVT.out.grow ((Bl.refl wr).alloc (.cells (meV (n, i, s)) 54))
      have C1 : Hid (Calls Try.prog 64 #[.pointer (some ⟨q, 0, none⟩), .agg (meV (n, i, s))] (wr.alloc (.cells (meV (n, i, s)) 54)) fun e w' => e = .returned (.bool (K.news F (n, i, s))) ∧ Bl (wr.alloc (.cells (meV (n, i, s)) 54)) w') := isNews_x x1 _ hmi
      have HOW1 : Hid ((wr.alloc (.cells (meV (n, i, s)) 54)).ownsRow W.heap.size 54 3 u5 TK.length (flG lyM TK)) := ownsRow_bl HOW.out ((Bl.refl wr).alloc _)
      have HOF1 : Hid (Of1 b W (wr.alloc (.cells (meV (n, i, s)) 54))) := HOF.out.trans (Of1.of_bl ((Bl.refl wr).alloc _))
      have HVT1 : Hid (VT w q b F (N + k) (wr.alloc (.cells (meV (n, i, s)) 54))) := x1
      clear hrg x1 HOW HVT HOF
      unfold meV at C1 HOW1 HOF1 HVT1
      simp only at C1 HOW1 HOF1 HVT1
      cases hnw : K.news F (n, i, s) with
      | false =>
        rw [hnw] at HT C1
        rw [stp_no hnw] at HM
        clear hnw
        go_wp2_with (first
          | (refine wpList_load_mid rfl 54 _ rfl b2 (off + k * 3) rfl [.int .i64 n, .int .i64 i, .int .i64 s] _ HR.out hum rfl infoMe ?_; clear HR)
          | (go_at_call 64; refine (C1.out).mono ?_; clear C1; rintro e w' ⟨rfl, HB⟩))
        go_roundw
        case rel => exact ⟨k + 1, by omega, by go_num, HW.out _ _ (by rw [HM.out]; exact (HVT1.out.grow HB).more (by omega)) (HOF1.out.trans (Of1.of_bl HB)) (by rw [HT.out]; simpa using ownsRow_bl HOW1.out HB)⟩
        case measure => simp [intOf]; omega
      | true =>
        rw [hnw] at HT C1
        rw [stp_yes hnw] at HM
        clear hnw
        have hws : W.heap.size ≤ wr.heap.size := HWS.out
        go_wp2_with (first
          | (refine wpList_load_mid rfl 54 _ rfl b2 (off + k * 3) rfl [.int .i64 n, .int .i64 i, .int .i64 s] _ HR.out hum rfl infoMe ?_; clear HR)
          | (go_at_call 64; refine (C1.out).mono ?_; clear C1; rintro e w' ⟨rfl, HB⟩))
        have x2 := HVT1.out.grow HB
        have c0 := x2.c0
        have hbx := HB.box
        obtain ⟨k0, k1, k2⟩ := cells3 hbx
        obtain ⟨W', hrun, hx', ho'⟩ := (x2.grow (Bl.refl w').drew).put (n, i, s) hmi (by omega)
        unfold meV at hrun
        simp only at hrun
        have hbx' : W'.heap[wr.heap.size]? = some (.cells #[.int .i64 n, .int .i64 i, .int .i64 s] 54 (0, 0)) := by
          rw [ho'.block _ (lt_heap hbx) (by omega)]; exact hbx
        have R1 : Hid (W'.rangeAt wr.heap.size 0 [.int .i64 n, .int .i64 i, .int .i64 s]) := range3 hbx'
        have HOW2 : Hid (W'.ownsRow W.heap.size 54 3 u5 TK.length (flG lyM TK)) := own_of1 (w := w'.drew) (ownsRow_bl (ownsRow_bl HOW1.out HB) (Bl.refl w').drew) ho' hb
        have HOF2 : Hid (Of1 b W W') := (HOF1.out.trans (Of1.of_bl HB.drew)).trans ho'
        have HVT2 : Hid (VT w q b (fun k => if k = n then some (n, i, s) else F k) (N + k + 1) W') := hx'
        have hBW : W.heap.size ≤ W'.heap.size := HOF2.out.size
        clear x2 hx' ho' HVT1 HOW1 HOF1 HB hbx'
        go_region
        clear c0 k0 k1 k2 hbx hrun
        go_wp2_with (first
          | (refine wpList_load_mid rfl 54 _ rfl wr.heap.size 0 rfl [.int .i64 n, .int .i64 i, .int .i64 s] _ R1.out hum rfl infoMe ?_; clear R1)
          | (refine wl_app1N lyM 54 46 (.agg #[.int .i64 0, .int .i64 0, .int .i64 0]) 24 undMs infoMe3 rfl (by decide) rfl _ _ rfl W.heap.size TK.length TK rfl (n, i, s) u5 rfl hBW HOW2.out rfl (by omega) ?_ _ rfl rfl; intro a' c' w2 g1 g2))
        obtain ⟨y1, y2⟩ := HVT2.out.grown HOF2.out hq hb HOW2.out g2 hw
        have z1 : w2.ownsRow W.heap.size 54 3 (.slice a' (TK.length + 1) c') (K.tak f (l.take (k + 1))).length (flG lyM (K.tak f (l.take (k + 1)))) := by
          have e : K.tak f (l.take (k + 1)) = TK ++ [(n, i, s)] := HT.out.trans (by simp)
          rw [e, List.length_append]; exact g1
        go_roundw
        case rel => exact ⟨k + 1, by omega, by go_num, HW.out _ _ (by rw [HM.out]; exact y1.more (by omega)) y2 z1⟩
        case measure => simp [intOf]; omega
    · obtain rfl : k = l.length := by omega
      have h1 := hx.vt
      have h2 := hx.of
      have h3 := hx.own
      rw [List.take_length] at h1 h3
      obtain ⟨a', c', rfl, h4⟩ := owns_rs lyM h3
      have HQ : Hid (RS lyM wr a' (K.tak f l) ∧ VT w q b (K.mrg f l) (N + l.length) wr ∧ Of1 b W wr) := ⟨h4, h1, h2⟩
      clear hx h1 h2 h3 h4 HX HV HO
      go_wp2_with fail
      go_ret
      exact ⟨a', c', rfl, HQ.out⟩
theorem Merge_b {w W W1 : World} {q b : Nat} {f : K.Vw} {N : Nat} (x : VT w q b f N W) (hb : Bl W1 W) (h1 : W1.heap.size ≤ b) (l : List K.Me) (a : Option Addr) (c : Nat) (hv : RS lyM W a l) (hl : l.length ≤ 1000) (hN : N ≤ 100000000000) (hok : ∀ m ∈ l, i64 m.1) :
    Calls Try.prog 49 #[.pointer (some ⟨q, 0, none⟩), .slice a l.length c] W fun e w' => ∃ a' c', e = .returned (.slice a' (K.tak f l).length c') ∧ RS lyM w' a' (K.tak f l) ∧ VT w q b (K.mrg f l) (N + l.length) w' ∧ Bl W1 w' := (Merge_x x l a c hv hl hN hok).mono fun e w' ⟨a', c', h2, h3, h4, h5⟩ => ⟨a', c', h2, h3, h4, h5.bl hb h1⟩
theorem makeV (W : World) : (Instr.makeMap tVm none).run Try.prog W = .ok (.map (some W.heap.size)) (W.alloc (.map #[] 0)) := by simp [Instr.makeMap, run_underlying undVm]
set_option maxRecDepth 8000 in
set_option maxHeartbeats 4000000 in
theorem New_x (W : World) (l : List K.Me) (a : Option Addr) (c : Nat) (hv : RS lyM W a l) (hl : l.length ≤ 1000) (hok : ∀ m ∈ l, i64 m.1) :
    Calls Try.prog 47 #[.slice a l.length c] W fun e w' => ∃ q b, e = .returned (.pointer (some ⟨q, 0, none⟩)) ∧ VT W q b (K.mrg K.e0 l) l.length w' := by
  have C1 : Hid (∀ q b w', VT W q b K.e0 0 w' → Calls Try.prog 49 #[.pointer (some ⟨q, 0, none⟩), .slice a l.length c] w' fun e w' => ∃ a' c', e = .returned (.slice a' (K.tak K.e0 l).length c') ∧ RS lyM w' a' (K.tak K.e0 l) ∧ VT W q b (K.mrg K.e0 l) (0 + l.length) w' ∧ Bl W w') := fun q b w' x => Merge_b x x.bl x.b0 l a c (hv.bl x.bl) hl (by omega) hok
  have hmk := makeV W
  have x0 : VT W (W.heap.size + 1) W.heap.size K.e0 0 ((W.alloc (.map #[] 0)).alloc (.cells #[.map (some W.heap.size)] 111)) := by
    refine ⟨?_, (VM.made W).block (Below.heap_alloc _ _ _ (by simp)), by omega, Nat.le_refl _, ((Bl.refl W).alloc _).alloc _⟩
    have := heap_alloc_new (W.alloc (.map #[] 0)) (.cells #[.map (some W.heap.size)] 111)
    rwa [size_alloc1] at this
  have HX : Hid (VT W (W.heap.size + 1) W.heap.size K.e0 0 ((W.alloc (.map #[] 0)).alloc (.cells #[.map (some W.heap.size)] 111))) := x0
  clear hv hok x0
  go_enter Try.func47, Try.ntmps47
  go_wp2_with (first
    | (go_at_call 49; refine (C1.out _ _ _ HX.out).mono ?_; clear C1 HX; rintro e w' ⟨a', c', rfl, h3, HX, h5⟩))
  go_ret
  exact ⟨_, _, rfl, by rw [Nat.zero_add] at HX; exact HX⟩
end Go.Proofs.Ytebmgajijjhinaa
