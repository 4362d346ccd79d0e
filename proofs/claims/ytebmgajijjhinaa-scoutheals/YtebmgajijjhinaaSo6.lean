/- those: the nodes for which something holds. -/
import Derived.Test.YtebmgajijjhinaaSo5
namespace Go.Proofs.Ytebmgajijjhinaa
open Go.RowKit Go.Maps
set_option linter.unusedVariables false
set_option linter.unusedSimpArgs false

def thL (pr : K.Me → Bool) (l : List K.Me) (k : Nat) : List Int := ((l.take k).filter pr).map (·.1)
theorem thL_all (pr : K.Me → Bool) (l : List K.Me) : thL pr l l.length = (l.filter pr).map (·.1) := by simp [thL]
theorem thL_succ {pr : K.Me → Bool} {l : List K.Me} {k : Nat} {m : K.Me} (h : l[k]? = some m) : thL pr l (k + 1) = thL pr l k ++ if pr m = true then [m.1] else [] := by
  unfold thL
  rw [List.take_add_one, h, Option.toList_some, List.filter_append, List.map_append]
  congr 1
  by_cases e : pr m = true <;> simp [e]
theorem thL_len (pr : K.Me → Bool) (l : List K.Me) (k : Nat) : (thL pr l k).length ≤ k := by
  unfold thL
  rw [List.length_map]
  have h1 := List.length_filter_le pr (l.take k)
  have h2 := List.length_take_le k l
  omega
theorem own_ge {N n k : Nat} {W : World} {T : TypeId} {xs : List Value} {a : Option Addr} {c : Nat} (h : W.ownsRow N T k (.slice a n c) n xs) : ∀ g off, a = some ⟨g, off, none⟩ → N ≤ g ∧ g < W.heap.size := fun g off e => by
  obtain ⟨h0, ⟨h1, _⟩ | ⟨g', cap, cur, h1, h2, h3, _⟩⟩ := h
  · rw [e] at h1; cases h1
  · rw [e] at h1; cases h1; exact ⟨h2, lt_heap h3⟩
set_option maxRecDepth 8000 in
set_option maxHeartbeats 2000000 in
theorem those_x {w W : World} {p : Nat} {P : Pl} {B : Nat → Prop} {N : Nat} {s : SO.Sc} (x : S0 w p P B N s W) (f : FuncId) (pr : K.Me → Bool) (hent : ∀ args w, (callFunc f args).run Try.prog w = .ok (.enter f args) w)
    (hf : ∀ (W' : World) (m : K.Me), m ∈ K.all s.f → Bl W W' → Calls Try.prog f #[.pointer (some ⟨p, 0, none⟩), .agg (meV m)] W' fun e w' => e = .returned (.bool (pr m)) ∧ Bl W' w') :
    Calls Try.prog 16 #[.pointer (some ⟨p, 0, none⟩), .func (.func f) #[.pointer (some ⟨p, 0, none⟩)] #[]] W fun e w' => ∃ a c, e = .returned (.slice a (SO.those s pr).length c) ∧ RS lyI w' a (SO.those s pr) ∧ Bl W w' ∧ ∀ g off, a = some ⟨g, off, none⟩ → W.heap.size ≤ g ∧ g < w'.heap.size := by
  have c0 := x.c0
  have C1 : Hid (Calls Try.prog 27 #[.pointer (some ⟨P.q, 0, none⟩)] W fun e w' => ∃ a c, e = .returned (.slice a (K.all s.f).length c) ∧ RS lyM w' a (K.all s.f) ∧ Bl W w') := All_g x.vt.getC
  have HP : Hid (SO.those s pr = thL pr (K.all s.f) (K.all s.f).length) := (thL_all _ _).symm
  have hl : (K.all s.f).length ≤ 6 := K.allN_len s.f 6
  have HF : Hid (∀ (W' : World) (m : K.Me), m ∈ K.all s.f → Bl W W' → Calls Try.prog f #[.pointer (some ⟨p, 0, none⟩), .agg (meV m)] W' fun e w' => e = .returned (.bool (pr m)) ∧ Bl W' w') := hf
  generalize SO.those s pr = R at *
  generalize K.all s.f = l at *
  generalize P.q = q at *
  obtain ⟨fs, hum⟩ := undMe
  clear x hf
  go_enter Try.func16, Try.ntmps16
  go_wp2_with (first
    | (go_at_call 27; refine (C1.out).mono ?_; clear C1 c0; rintro e W2 ⟨a, c, rfl, hv, HB⟩))
  have HV : Hid (RS lyM W2 a l) := hv
  have HB0 : Hid (Bl W W2) := HB
  clear hv HB
  go_loopw [5, 7, 14] (fun u5 _ u14 wr => ∃ k : Nat, k ≤ l.length ∧ u14 = .int .i64 (k : Int) ∧ Bl W2 wr ∧ wr.ownsRow W2.heap.size 3 1 u5 (thL pr l k).length (flG lyI (thL pr l k))) (fun _ _ u14 _ => l.length - (intOf u14).toNat)
  case atStart => exact ⟨0, by omega, rfl, Bl.refl _, ⟨rfl, Or.inl ⟨rfl, rfl⟩⟩⟩
  case round =>
    obtain ⟨k, hk, rfl, HB, ho⟩ := hrel
    by_cases hlt : k < l.length
    · obtain ⟨m, hm⟩ : ∃ m, l[k]? = some m := ⟨l[k], List.getElem?_eq_getElem hlt⟩
      obtain ⟨b2, off, rfl, hb2, hrg⟩ := (HV.out.bl HB) k m hm
      have HS : Hid (thL pr l (k + 1) = thL pr l k ++ if pr m = true then [m.1] else []) := thL_succ hm
      have hal := thL_len pr l k
      have HO : Hid (wr.ownsRow W2.heap.size 3 1 u5 (thL pr l k).length (flG lyI (thL pr l k))) := ho
      obtain ⟨L, hL⟩ : ∃ L, thL pr l k = L := ⟨_, rfl⟩
      rw [hL] at HS HO hal
      have C3 : Hid (Calls Try.prog f #[.pointer (some ⟨p, 0, none⟩), .agg (meV m)] (wr.alloc (.cells (meV m) 54)) fun e w' => e = .returned (.bool (pr m)) ∧ Bl (wr.alloc (.cells (meV m) 54)) w') := HF.out _ m (List.mem_of_getElem? hm) ((HB0.out.step HB).alloc _)
      clear ho hL hm
      obtain ⟨n, i, st⟩ := m
      have HR : Hid (wr.rangeAt b2 (off + k * 3) [.int .i64 n, .int .i64 i, .int .i64 st]) := hrg
      have HB2 : Hid (∀ w', Bl (wr.alloc (.cells #[.int .i64 n, .int .i64 i, .int .i64 st] 54)) w' → Bl W2 w') := fun w' h => (HB.alloc _).step h
      have HO2 : Hid (∀ w', Bl (wr.alloc (.cells #[.int .i64 n, .int .i64 i, .int .i64 st] 54)) w' → w'.ownsRow W2.heap.size 3 1 u5 L.length (flG lyI L)) := fun w' h => ownsRow_bl HO.out (h.up)
      clear hrg HF HV HO HB
      unfold meV at C3
      simp only at C3
      cases hh : pr (n, i, st) with
      | true =>
        have HE : Hid (thL pr l (k + 1) = L ++ [n]) := by show _ = _; rw [HS.out, if_pos hh]
        rw [hh] at C3
        clear HS hh
        go_wp2_with (first
          | (refine wpList_load_mid rfl 54 _ rfl b2 (off + k * 3) rfl [.int .i64 n, .int .i64 i, .int .i64 st] _ HR.out hum rfl infoMe ?_; clear HR)
          | (go_at_fn f; refine C3.out.mono ?_; clear C3; rintro e w1 ⟨rfl, hb1⟩; obtain ⟨k0, k1, k2⟩ := cells3 hb1.box; have hB1 := HB2.out _ hb1; have HO1 := HO2.out _ hb1; have HBX := hidI hB1; have HOX := hidI HO1; clear hb1 HB2 HO2 hB1 HO1)
          | (refine wl_app1M lyI 3 23 (.int .i64 0) 8 undIs infoIn3 rfl (by decide) rfl _ _ rfl L.length L rfl n u5 rfl HBX.out HOX.out w1.heap.size rfl rfl (by omega) ?_ _ rfl rfl; intro a' c' w2 g1 g2 g3))
        have z1 : w2.ownsRow W2.heap.size 3 1 (.slice a' (L.length + 1) c') (thL pr l (k + 1)).length (flG lyI (thL pr l (k + 1))) := by
          rw [HE.out, List.length_append]; exact g1
        go_roundw
        case rel => exact ⟨k + 1, by omega, by go_num, g2, z1⟩
        case measure => simp [intOf]; omega
      | false =>
        have HE : Hid (thL pr l (k + 1) = L) := by show _ = _; rw [HS.out, hh]; simp
        rw [hh] at C3
        clear HS hh
        go_wp2_with (first
          | (refine wpList_load_mid rfl 54 _ rfl b2 (off + k * 3) rfl [.int .i64 n, .int .i64 i, .int .i64 st] _ HR.out hum rfl infoMe ?_; clear HR)
          | (go_at_fn f; refine C3.out.mono ?_; clear C3; rintro e w1 ⟨rfl, hb1⟩; have HBX := hidI (HB2.out _ hb1); have HOX := hidI (HO2.out _ hb1); clear hb1 HB2 HO2))
        go_roundw
        case rel => exact ⟨k + 1, by omega, by go_num, HBX.out, by rw [HE.out]; exact HOX.out⟩
        case measure => simp [intOf]; omega
    · obtain rfl : k = l.length := by omega
      obtain ⟨a', c', rfl, h4⟩ := owns_rs lyI ho
      have HQ : Hid (RS lyI wr a' R ∧ Bl W wr ∧ ∀ g off, a' = some ⟨g, off, none⟩ → W.heap.size ≤ g ∧ g < wr.heap.size) := ⟨by rw [HP.out]; exact h4, HB0.out.step HB, fun g off e => ⟨Nat.le_trans (Below.size HB0.out) (own_ge ho g off e).1, (own_ge ho g off e).2⟩⟩
      clear ho h4 HB
      go_wp2_with fail
      go_ret
      exact ⟨a', c', by rw [HP.out]; rfl, HQ.out⟩
end Go.Proofs.Ytebmgajijjhinaa
