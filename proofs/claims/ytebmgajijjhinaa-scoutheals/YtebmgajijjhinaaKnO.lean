/- Merge, and where what it answers lies. -/
import Derived.Test.YtebmgajijjhinaaKn3
namespace Go.Proofs.Ytebmgajijjhinaa
open Go.RowKit Go.Maps
set_option linter.unusedVariables false
set_option linter.unusedSimpArgs false

set_option maxRecDepth 8000 in
set_option maxHeartbeats 4000000 in
theorem Merge_o {w W : World} {q b : Nat} {f : K.Vw} {N : Nat} (x : VT w q b f N W) (l : List K.Me) (a : Option Addr) (c : Nat) (hv : RS lyM W a l) (hl : l.length ≤ 1000) (hN : N ≤ 100000000000) (hok : ∀ m ∈ l, i64 m.1) :
    Calls Try.prog 49 #[.pointer (some ⟨q, 0, none⟩), .slice a l.length c] W fun e w' => ∃ a' c', e = .returned (.slice a' (K.tak f l).length c') ∧ RS lyM w' a' (K.tak f l) ∧ VT w q b (K.mrg f l) (N + l.length) w' ∧ Of1 b W w' ∧ (∀ g off, a' = some ⟨g, off, none⟩ → W.heap.size ≤ g) := by
  have HX : Hid (VT w q b f N W) := x
  have HV : Hid (RS lyM W a l) := hv
  have HO : Hid (∀ m ∈ l, i64 m.1) := hok
  have hq := lt_heap x.row
  have hb := x.mp.lt
  have hw : w.heap.size ≤ W.heap.size := Below.size x.bl
  obtain ⟨fs, hum⟩ := undMe
  clear x hv hok
  go_enter Try.func49, Try.ntmps49
  go_wp2_with fail
  go_loopw [5, 12] (fun u5 u12 wr => ∃ k : Nat, k ≤ l.length ∧ u12 = .int .i64 k ∧ MG w W q b f N l k u5 wr) (fun _ u12 _ => l.length - (intOf u12).toNat)
  case atStart => exact ⟨0, Nat.zero_le _, rfl, ⟨HX.out, Of1.refl _ _, ⟨rfl, Or.inl ⟨rfl, rfl⟩⟩⟩⟩
  case round =>
    obtain ⟨k, hk, rfl, hx⟩ := hrel
    by_cases hlt : k < l.length
    · obtain ⟨m, hm⟩ : ∃ m, l[k]? = some m := ⟨l[k], List.getElem?_eq_getElem hlt⟩
      obtain ⟨es, cl, hmp⟩ := HX.out.mp.isMap
      obtain ⟨b2, off, rfl, hb2, hrg⟩ := (HV.out.off hx.of hmp) k m hm
      have hmi := HO.out m (List.mem_of_getElem? hm)
      have HM : Hid (K.mrg f (l.take (k + 1)) = K.stp (K.mrg f (l.take k)) m) := K.mrg_take hm
      have HT : Hid (K.tak f (l.take (k + 1)) = K.tak f (l.take k) ++ if K.news (K.mrg f (l.take k)) m = true then [m] else []) := K.tak_take hm
      have htl : (K.tak f (l.take k)).length ≤ k := Nat.le_trans (K.tak_len _ _) (by rw [List.length_take]; omega)
      obtain ⟨F, hF⟩ : ∃ F, K.mrg f (l.take k) = F := ⟨_, rfl⟩
      obtain ⟨TK, hTK⟩ : ∃ F, K.tak f (l.take k) = F := ⟨_, rfl⟩
      have HVT : Hid (VT w q b F (N + k) wr) := by rw [← hF]; exact hx.vt
      have HOF : Hid (Of1 b W wr) := hx.of
      have HOW : Hid (wr.ownsRow W.heap.size 54 3 u5 TK.length (flG lyM TK)) := by rw [← hTK]; exact hx.own
      rw [hF] at HM HT
      rw [hTK] at HT htl
      have HW : Hid (∀ v W', VT w q b (K.mrg f (l.take (k + 1))) (N + (k + 1)) W' → Of1 b W W' → W'.ownsRow W.heap.size 54 3 v (K.tak f (l.take (k + 1))).length (flG lyM (K.tak f (l.take (k + 1)))) → MG w W q b f N l (k + 1) v W') := fun v W' h1 h2 h3 => ⟨h1, h2, h3⟩
      have HWS : Hid (W.heap.size ≤ wr.heap.size) := hx.of.size
      clear hx hF hTK HX HV HO hmp hm
      obtain ⟨n, i, s⟩ := m
      have HR : Hid (wr.rangeAt b2 (off + k * 3) [.int .i64 n, .int .i64 i, .int .i64 s]) := hrg
      have x1 := HVT.out.grow ((Bl.refl wr).alloc (.cells (meV (n, i, s)) 54))
      have C1 : Hid (Calls Try.prog 64 #[.pointer (some ⟨q, 0, none⟩), .agg (meV (n, i, s))] (wr.alloc (.cells (meV (n, i, s)) 54)) fun e w' => e = .returned (.bool (K.news F (n, i, s))) ∧ Bl (wr.alloc (.cells (meV (n, i, s)) 54)) w') := isNews_x x1 _ hmi
      have HOW1 : Hid ((wr.alloc (.cells (meV (n, i, s)) 54)).ownsRow W.heap.size 54 3 u5 TK.length (flG lyM TK)) := ownsRow_bl HOW.out ((Bl.refl wr).alloc _)
      have HOF1 : Hid (Of1 b W (wr.alloc (.cells (meV (n, i, s)) 54))) := HOF.out.trans (Of1.of_bl ((Bl.refl wr).alloc _))
      have HVT1 : Hid (VT w q b F (N + k) (wr.alloc (.cells (meV (n, i, s)) 54))) := x1
      clear hrg x1 HOW HVT HOF
      unfold meV at C1 HOW1 HOF1 HVT1
      simp only at C1 HOW1 HOF1 HVT1
      cases hnw : K.news F (n, i, s) with
      | false =>
        rw [hnw] at HT C1
        rw [stp_no hnw] at HM
        clear hnw
        go_wp2_with (first
          | (refine wpList_load_mid rfl 54 _ rfl b2 (off + k * 3) rfl [.int .i64 n, .int .i64 i, .int .i64 s] _ HR.out hum rfl infoMe ?_; clear HR)
          | (go_at_call 64; refine (C1.out).mono ?_; clear C1; rintro e w' ⟨rfl, HB⟩))
        go_roundw
        case rel => exact ⟨k + 1, by omega, by go_num, HW.out _ _ (by rw [HM.out]; exact (HVT1.out.grow HB).more (by omega)) (HOF1.out.trans (Of1.of_bl HB)) (by rw [HT.out]; simpa using ownsRow_bl HOW1.out HB)⟩
        case measure => simp [intOf]; omega
      | true =>
        rw [hnw] at HT C1
        rw [stp_yes hnw] at HM
        clear hnw
        have hws : W.heap.size ≤ wr.heap.size := HWS.out
        go_wp2_with (first
          | (refine wpList_load_mid rfl 54 _ rfl b2 (off + k * 3) rfl [.int .i64 n, .int .i64 i, .int .i64 s] _ HR.out hum rfl infoMe ?_; clear HR)
          | (go_at_call 64; refine (C1.out).mono ?_; clear C1; rintro e w' ⟨rfl, HB⟩))
        have x2 := HVT1.out.grow HB
        have c0 := x2.c0
        have hbx := HB.box
        obtain ⟨k0, k1, k2⟩ := cells3 hbx
        obtain ⟨W', hrun, hx', ho'⟩ := (x2.grow (Bl.refl w').drew).put (n, i, s) hmi (by omega)
        unfold meV at hrun
        simp only at hrun
        have hbx' : W'.heap[wr.heap.size]? = some (.cells #[.int .i64 n, .int .i64 i, .int .i64 s] 54 (0, 0)) := by
          rw [ho'.block _ (lt_heap hbx) (by omega)]; exact hbx
        have R1 : Hid (W'.rangeAt wr.heap.size 0 [.int .i64 n, .int .i64 i, .int .i64 s]) := range3 hbx'
        have HOW2 : Hid (W'.ownsRow W.heap.size 54 3 u5 TK.length (flG lyM TK)) := own_of1 (w := w'.drew) (ownsRow_bl (ownsRow_bl HOW1.out HB) (Bl.refl w').drew) ho' hb
        have HOF2 : Hid (Of1 b W W') := (HOF1.out.trans (Of1.of_bl HB.drew)).trans ho'
        have HVT2 : Hid (VT w q b (fun k => if k = n then some (n, i, s) else F k) (N + k + 1) W') := hx'
        have hBW : W.heap.size ≤ W'.heap.size := HOF2.out.size
        clear x2 hx' ho' HVT1 HOW1 HOF1 HB hbx'
        go_region
        clear c0 k0 k1 k2 hbx hrun
        go_wp2_with (first
          | (refine wpList_load_mid rfl 54 _ rfl wr.heap.size 0 rfl [.int .i64 n, .int .i64 i, .int .i64 s] _ R1.out hum rfl infoMe ?_; clear R1)
          | (refine wl_app1N lyM 54 46 (.agg #[.int .i64 0, .int .i64 0, .int .i64 0]) 24 undMs infoMe3 rfl (by decide) rfl _ _ rfl W.heap.size TK.length TK rfl (n, i, s) u5 rfl hBW HOW2.out rfl (by omega) ?_ _ rfl rfl; intro a' c' w2 g1 g2))
        obtain ⟨y1, y2⟩ := HVT2.out.grown HOF2.out hq hb HOW2.out g2 hw
        have z1 : w2.ownsRow W.heap.size 54 3 (.slice a' (TK.length + 1) c') (K.tak f (l.take (k + 1))).length (flG lyM (K.tak f (l.take (k + 1)))) := by
          have e : K.tak f (l.take (k + 1)) = TK ++ [(n, i, s)] := HT.out.trans (by simp)
          rw [e, List.length_append]; exact g1
        go_roundw
        case rel => exact ⟨k + 1, by omega, by go_num, HW.out _ _ (by rw [HM.out]; exact y1.more (by omega)) y2 z1⟩
        case measure => simp [intOf]; omega
    · obtain rfl : k = l.length := by omega
      have h1 := hx.vt
      have h2 := hx.of
      have h3 := hx.own
      rw [List.take_length] at h1 h3
      obtain ⟨a', c', rfl, h4⟩ := owns_rs lyM h3
      have h5 : ∀ g off, a' = some ⟨g, off, none⟩ → W.heap.size ≤ g := fun g off e => by subst e; exact (owns_ge h3 rfl).1
      have HQ : Hid (RS lyM wr a' (K.tak f l) ∧ VT w q b (K.mrg f l) (N + l.length) wr ∧ Of1 b W wr ∧ (∀ g off, a' = some ⟨g, off, none⟩ → W.heap.size ≤ g)) := ⟨h4, h1, h2, h5⟩
      clear hx h1 h2 h3 h4 h5 HX HV HO
      go_wp2_with fail
      go_ret
      exact ⟨a', c', rfl, HQ.out⟩
end Go.Proofs.Ytebmgajijjhinaa
