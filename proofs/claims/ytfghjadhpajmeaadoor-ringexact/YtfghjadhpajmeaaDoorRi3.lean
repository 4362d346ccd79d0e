/- Who comes when: Walk, Owns. -/
import Derived.Test.YtfghjadhpajmeaaDoorRi2
namespace Go.Proofs.YtfghjadhpajmeaaDoor
open Go.RowKit Go.Maps Go.Sort Go.Shelf
set_option linter.unusedVariables false
set_option linter.unusedSimpArgs false

theorem undIs : Tryd.prog.underlying 24 = some (.slice 3) := Tryd.underlying24
theorem undCs : Tryd.prog.underlying 47 = some (.slice 51) := Tryd.underlying47
theorem undCm : ∃ fs, Tryd.prog.underlying 51 = some (.struct fs) := ⟨_, Tryd.underlying51⟩
theorem infoCm : (Tryd.prog.info? 51).map (·.size) = some 2 := by kernel_rfl
theorem infoCm3 : (Tryd.prog.info? 51).map (fun i => (i.zero, i.size, i.bytes)) = some (some (.agg #[.int .i64 0, .int .u64 0]), 2, 16) := by kernel_rfl
def fsts (o : List Cm) : List Int := o.map (·.1)
theorem fsts_len (o : List Cm) : (fsts o).length = o.length := by simp [fsts]
theorem fsts_succ {o : List Cm} {k : Nat} {m : Cm} (h : o[k]? = some m) : fsts (o.take (k + 1)) = fsts (o.take k) ++ [m.1] := by
  unfold fsts; rw [List.take_add_one, h]; simp
set_option maxRecDepth 8000 in
set_option maxHeartbeats 4000000 in
theorem nodesOf_x (l : List Cm) (a : Option Addr) (n c : Nat) (hnl : n = l.length) {W : World} (hv : RS lyC W a l) (hl : l.length ≤ 6) :
    Calls Tryd.prog 26 #[.slice a n c] W fun e w' => ∃ v, e = .returned v ∧ w'.ownsRow W.heap.size 3 1 v (fsts l).length (flG lyI (fsts l)) ∧ Bl W w' := by
  subst hnl
  obtain ⟨fs, hum⟩ := undCm
  have HV : Hid (RS lyC W a l) := hv
  clear hv
  go_enter Tryd.func26, Tryd.ntmps26
  go_wp2_with fail
  go_loopw [3, 8] (fun u3 u8 wr => ∃ k : Nat, k ≤ l.length ∧ u8 = .int .i64 (k : Int) ∧ Bl W wr ∧ wr.ownsRow W.heap.size 3 1 u3 (fsts (l.take k)).length (flG lyI (fsts (l.take k)))) (fun _ u8 _ => l.length - (intOf u8).toNat)
  case atStart => exact ⟨0, by omega, rfl, Bl.refl _, ⟨rfl, Or.inl ⟨rfl, rfl⟩⟩⟩
  case round =>
    obtain ⟨k, hk, rfl, HB, ho⟩ := hrel
    by_cases hlt : k < l.length
    · obtain ⟨m, hm⟩ : ∃ m, l[k]? = some m := ⟨l[k], List.getElem?_eq_getElem hlt⟩
      obtain ⟨b2, off, rfl, hb2, hrg⟩ := (HV.out.bl HB) k m hm
      have hal : (fsts (l.take k)).length ≤ 6 := by rw [fsts_len, List.length_take]; omega
      have HE : Hid (fsts (l.take (k + 1)) = fsts (l.take k) ++ [m.1]) := fsts_succ hm
      have HO : Hid (wr.ownsRow W.heap.size 3 1 u3 (fsts (l.take k)).length (flG lyI (fsts (l.take k)))) := ho
      obtain ⟨L, hL⟩ : ∃ L, fsts (l.take k) = L := ⟨_, rfl⟩
      rw [hL] at HE HO hal
      clear ho hL hm
      obtain ⟨n, i⟩ := m
      have HR : Hid (wr.rangeAt b2 (off + k * 2) [.int .i64 n, .int .u64 i]) := hrg
      clear hrg
      have HB2 : Hid (Bl W (wr.alloc (.cells #[.int .i64 n, .int .u64 i] 51))) := HB.alloc _
      have HO2 : Hid ((wr.alloc (.cells #[.int .i64 n, .int .u64 i] 51)).ownsRow W.heap.size 3 1 u3 L.length (flG lyI L)) := ownsRow_bl HO.out ((Bl.refl _).alloc _)
      go_wp2_with (first
        | go_skip
        | (refine wpList_load_mid rfl 51 _ rfl b2 (off + k * 2) rfl [.int .i64 n, .int .u64 i] _ HR.out hum rfl infoCm ?_; clear HR)
        | (refine wl_app1M lyI 3 24 (.int .i64 0) 8 undIs infoI3 rfl (by decide) rfl _ _ rfl L.length L rfl n u3 rfl HB2.out HO2.out (wr.heap.size + 1) (by simp) rfl (by omega) ?_ _ rfl rfl; intro a' c' w2 g1 g2 g3))
      have z1 : w2.ownsRow W.heap.size 3 1 (.slice a' (L.length + 1) c') (fsts (l.take (k + 1))).length (flG lyI (fsts (l.take (k + 1)))) := by
        rw [HE.out, List.length_append]; exact g1
      go_roundw
      case rel => exact ⟨k + 1, by omega, by go_num, g2, z1⟩
      case measure => simp [intOf]; omega
    · obtain rfl : k = l.length := by omega
      rw [List.take_length] at ho
      have HQ : Hid (wr.ownsRow W.heap.size 3 1 u3 (fsts l).length (flG lyI (fsts l)) ∧ Bl W wr) := ⟨ho, HB⟩
      obtain ⟨a', c', rfl, h4⟩ := owns_rs lyI ho
      clear ho h4 HB
      go_wp2_with fail
      go_ret
      exact ⟨_, rfl, HQ.out⟩
theorem own_base {W : World} {N M k n : Nat} {T : TypeId} {v : Value} {xs : List Value} (h : W.ownsRow N T k v n xs) (hM : M ≤ N) : W.ownsRow M T k v n xs := by
  obtain ⟨h0, h1 | ⟨g, cap, cur, h1, h2, h3⟩⟩ := h
  · exact ⟨h0, Or.inl h1⟩
  · exact ⟨h0, Or.inr ⟨g, cap, cur, h1, Nat.le_trans hM h2, h3⟩⟩
theorem GB.grown {w W W' : World} {T : TypeId} {k n : Nat} {v : Value} {xs : List Value} (h : GB w W) (hz : 2 ≤ w.heap.size) (ho : W.ownsRow w.heap.size T k v n xs) (hg : W.grownBy W' v.ownBlock) : GB w W' := by
  have hb : Below w.heap.size w W' := Below.grown h.b hg h.b.size (fun q hq => (owns_ge ho hq).1)
  exact ⟨h.g.below (B := w.heap.size) (Below.grown (Below.refl _ W) hg h.b.size (fun q hq => (owns_ge ho hq).1)) hz, hb⟩
set_option maxRecDepth 8000 in
set_option maxHeartbeats 4000000 in
theorem Walk_x (d : List UInt8) (hd : d.length = 32) (l : List Int) (a : Option Addr) (n c : Nat) (hnl : n = l.length) (W : World) (hG : GW W) (hv : RS lyI W a l) (hl : l.length ≤ 100000) :
    Calls Tryd.prog 13 #[.agg (dg d), .slice a n c] W fun e w' => ∃ v out, e = .returned v ∧ RI.IsW (RI.near (RI.place d)) l out ∧ w'.ownsRow W.heap.size 3 1 v out.length (flG lyI out) ∧ GB W w' := by
  subst hnl
  have C1 : Hid (∀ W', GB W W' → Calls Tryd.prog 10 #[.agg (dg d)] W' fun e w' => e = .returned (.int .u64 (RI.place d : Nat)) ∧ GB W w') := fun W' h => (Place_x d hd W').mono fun e w' ⟨h1, h2⟩ => ⟨h1, h.step h2⟩
  have C2 : Hid (∀ (x : Int) (V W' : World), GB W V → GB V W' → Calls Tryd.prog 22 #[.slice a l.length c, .int .i64 x] W' fun e w' => e = .returned (.bool (l.contains x)) ∧ GB V w') := fun x V W' h0 h => (Contains_i l x a l.length c rfl (Bl.refl W') (hv.bl (h0.step h.b).b) hl).mono fun e w' ⟨h1, h2⟩ => ⟨h1, h.step h2⟩
  have C3 : Hid (∀ (x : Int) (V W' : World), 1 ≤ x → x ≤ 6 → GB V W' → Calls Tryd.prog 23 #[.int .u64 (RI.place d : Nat), .int .i64 x] W' fun e w' => e = .returned (.int .u64 (RI.near (RI.place d) x)) ∧ GB V w') := fun x V W' h1 h2 h => nearest_x _ x h h1 h2
  have hz := hG.z
  have HG : GB W (W.alloc (.cells (dg d) 23)) := (GB.refl hG).alloc _
  have hDs : (dg d).size = 32 := by rw [dg_size, hd]
  have HRow : Hid ((W.alloc (.cells (dg d) 23)).heap[W.heap.size]? = some (.cells (dg d) 23 (0, 0))) := heap_alloc_new _ _
  generalize dg d = D at *
  generalize ((RI.place d : Nat) : Int) = p at *
  clear hv hG hd
  go_enter Tryd.func13, Tryd.ntmps13
  go_wp2_with (first
    | go_skip
    | refine wpList_load_row rfl 23 _ rfl _ rfl 23 D (0, 0) _ HRow.out und27 rfl (by rw [hDs]; exact info27) ?_
    | (go_at_call 10; refine (C1.out _ HG).mono ?_; clear HG; rintro e w' ⟨rfl, HG⟩))
  have HW0 : Hid (GB W w') := HG
  have HC2 : Hid (∀ (x : Int) (V W' : World), GB W V → GB V W' → Calls Tryd.prog 22 #[.slice a l.length c, .int .i64 x] W' fun e w' => e = .returned (.bool (l.contains x)) ∧ GB V w') := fun x V W' h0 h => C2.out x V W' h0 h
  clear C1 C2
  go_loopw [6, 7] (fun u6 u7 wr => ∃ k : Nat, k ≤ 6 ∧ u7 = .int .i64 ((k : Int) + 1) ∧ GB W wr ∧ wr.ownsRow W.heap.size 51 2 u6 (RI.prs (RI.near p) (RI.cnd l k)).length (flG lyC (RI.prs (RI.near p) (RI.cnd l k)))) (fun _ u7 _ => 7 - (intOf u7).toNat)
  case atStart => exact ⟨0, by omega, rfl, HG, ⟨rfl, Or.inl ⟨rfl, rfl⟩⟩⟩
  case round =>
    clear HG HW0
    obtain ⟨k, hk, rfl, HG, ho⟩ := hrel
    by_cases hlt : k < 6
    · have hle : (k : Int) + 1 ≤ 6 := by omega
      have hGr : GB wr wr := GB.refl HG.g
      have HGW : Hid (GB W wr) := HG
      have hlen : (RI.prs (RI.near p) (RI.cnd l k)).length ≤ 6 := by
        have := RI.cnd_len l k
        unfold RI.prs; rw [List.length_map]; omega
      have HO : Hid (wr.ownsRow W.heap.size 51 2 u6 (RI.prs (RI.near p) (RI.cnd l k)).length (flG lyC (RI.prs (RI.near p) (RI.cnd l k)))) := ho
      cases hq : l.contains ((k : Int) + 1)
      · have C2 : Hid (∀ W', GB wr W' → Calls Tryd.prog 22 #[.slice a l.length c, .int .i64 ((k : Int) + 1)] W' fun e w' => e = .returned (.bool false) ∧ GB wr w') := by
          intro W' h; have := HC2.out ((k : Int) + 1) wr W' HGW.out h; rwa [hq] at this
        have HE : Hid (RI.cnd l (k + 1) = RI.cnd l k) := RI.cnd_no hq
        clear HC2 C3 hq ho
        go_wp2_with (first
          | go_skip
          | (go_at_call 22; refine (C2.out _ hGr).mono ?_; clear hGr; rintro e w' ⟨rfl, hGr⟩))
        go_roundw
        case rel => exact ⟨k + 1, by omega, by go_num, HGW.out.step hGr.b, by rw [HE.out]; exact ownsRow_bl HO.out hGr.b⟩
        case measure => simp [intOf]; omega
      · have C2 : Hid (∀ W', GB wr W' → Calls Tryd.prog 22 #[.slice a l.length c, .int .i64 ((k : Int) + 1)] W' fun e w' => e = .returned (.bool true) ∧ GB wr w') := by
          intro W' h; have := HC2.out ((k : Int) + 1) wr W' HGW.out h; rwa [hq] at this
        have HE : Hid (RI.prs (RI.near p) (RI.cnd l (k + 1)) = RI.prs (RI.near p) (RI.cnd l k) ++ [((k : Int) + 1, RI.near p ((k : Int) + 1))]) := by
          show _ = _; rw [RI.cnd_yes hq]; simp [RI.prs]
        have C4 : Hid (∀ W', GB wr W' → Calls Tryd.prog 23 #[.int .u64 p, .int .i64 ((k : Int) + 1)] W' fun e w' => e = .returned (.int .u64 (RI.near p ((k : Int) + 1))) ∧ GB wr w') := fun W' h => C3.out _ wr W' (by omega) hle h
        clear HC2 C3 hq ho
        generalize RI.prs (RI.near p) (RI.cnd l k) = L at *
        generalize RI.near p ((k : Int) + 1) = F at *
        go_wp2_with (first
          | go_skip
          | (go_at_call 22; refine (C2.out _ hGr).mono ?_; clear hGr; rintro e w' ⟨rfl, hGr⟩)
          | (go_at_call 23; refine (C4.out _ hGr).mono ?_; clear hGr; rintro e w2 ⟨rfl, hGr⟩; have HB2 : Hid (GB W w2) := HGW.out.step hGr.b; have HO2 : Hid (w2.ownsRow W.heap.size 51 2 u6 L.length (flG lyC L)) := ownsRow_bl HO.out hGr.b; clear hGr)
          | (refine wl_app1M lyC 51 47 (.agg #[.int .i64 0, .int .u64 0]) 16 undCs infoCm3 rfl (by decide) rfl _ _ rfl L.length L rfl ((k : Int) + 1, F) u6 rfl HB2.out.b HO2.out w2.heap.size rfl rfl (by omega) ?_ _ rfl rfl; intro a' c' w3 g1 g2 g3))
        have z1 : w3.ownsRow W.heap.size 51 2 (.slice a' (L.length + 1) c') (RI.prs (RI.near p) (RI.cnd l (k + 1))).length (flG lyC (RI.prs (RI.near p) (RI.cnd l (k + 1)))) := by
          rw [HE.out, List.length_append]; exact g1
        go_roundw
        case rel => exact ⟨k + 1, by omega, by go_num, HB2.out.grown hz HO2.out g3, z1⟩
        case measure => simp [intOf]; omega
    · obtain rfl : k = 6 := by omega
      have hlen : (RI.prs (RI.near p) (RI.cnd l 6)).length ≤ 6 := by
        have := RI.cnd_len l 6
        unfold RI.prs; rw [List.length_map]; omega
      have CS := hidI (sort_cm 25 cmpC swoC (enters_of Tryd.func25 (by kernel_rfl) rfl) byComing_gn rfl ho (by omega))
      have HK : Hid (∀ o : List Cm, o.Perm (RI.prs (RI.near p) (RI.cnd l 6)) → o.Pairwise (fun a b => ltOf cmpC b a = false) → RI.IsW (RI.near p) l (fsts o)) := fun o h1 h2 => RI.isW_sort h1 (h2.imp fun {a b} h => by rw [ltOf_C, decide_eq_false_iff_not] at h; exact h)
      have HGW : Hid (GB W wr) := HG
      have HO : Hid (wr.ownsRow W.heap.size 51 2 u6 (RI.prs (RI.near p) (RI.cnd l 6)).length (flG lyC (RI.prs (RI.near p) (RI.cnd l 6)))) := ho
      obtain ⟨a6, c6, hu6, _⟩ := owns_rs lyC ho
      subst hu6
      clear ho HG HC2 C3
      generalize RI.prs (RI.near p) (RI.cnd l 6) = L at *
      go_wp2_with (first
        | go_skip
        | (go_at_call 24; refine CS.out.mono ?_; clear CS; rintro e w4 ⟨rfl, o, p1, p2, p3, p4⟩; have HIS : Hid (RI.IsW (RI.near p) l (fsts o)) := HK.out o p1 p2; have hol : L.length = o.length := p1.length_eq.symm; have hon : o.length ≤ 6 := (by omega); have HB4 : Hid (GB W w4) := HGW.out.grown hz HO.out p4; have CN := hidI (nodesOf_x o a6 L.length c6 hol (show RS lyC w4 a6 o by (obtain ⟨a7, c7, h7, h8⟩ := owns_rs lyC (ks := o) (by rw [← hol]; exact p3); rw [← hol] at h7; cases h7; exact h8)) hon); clear p1 p2 p3 p4 hol)
        | (go_at_call 26; refine CN.out.mono ?_; clear CN; rintro e w5 ⟨v, rfl, q1, q2⟩))
      go_ret
      exact ⟨v, fsts o, rfl, HIS.out, own_base q1 HB4.out.b.size, HB4.out.step q2⟩
end Go.Proofs.YtfghjadhpajmeaaDoor
