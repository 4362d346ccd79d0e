/- Push, Left. -/
import Derived.Test.YtebmgajijjhinaaHuP
namespace Go.Proofs.Ytebmgajijjhinaa
open Go.RowKit Go.Maps
set_option linter.unusedVariables false
set_option linter.unusedSimpArgs false

/-- a slice that lies apart from the hum -/
def Apart (b : Nat) (v : Value) (a : Option Addr) : Prop := ∀ q off, a = some ⟨q, off, none⟩ → q ≠ b ∧ some q ≠ v.ownBlock
theorem RS.ov {α : Type} {E : Lay α} {W W' : World} {a : Option Addr} {l : List α} {b : Nat} {v v' : Value} (h : RS E W a l) (ho : OV b v v' W W') (hn : Apart b v a) : RS E W' a l := fun i x hx => by
  obtain ⟨q, off, h1, h2, h3⟩ := h i x hx
  obtain ⟨n1, n2⟩ := hn q off h1
  exact ⟨q, off, h1, by have := ho.size; omega, fun j u hu => by rw [World.cell?_of_block (w := W) (ho.block q h2 n1 n2)]; exact h3 j u hu⟩
theorem Apart.ov {b : Nat} {v v' : Value} {W W' : World} {a : Option Addr} (hn : Apart b v a) (ho : OV b v v' W W') (hlt : ∀ q off, a = some ⟨q, off, none⟩ → q < W.heap.size) : Apart b v' a := fun q off h => by
  obtain ⟨n1, n2⟩ := hn q off h
  refine ⟨n1, fun e => ?_⟩
  rcases ho.own q e.symm with h1 | h1
  · exact n2 h1.symm
  · have := hlt q off h; omega
theorem leT_of {a b : HU.Ru} (h : ltOf cmpT b a = false) : HU.leT a b = true := by
  unfold HU.leT
  rw [← ltOf_T, h]; rfl
/-- the hum's rumours are put into order -/
theorem sort_h {w W : World} {b : Nat} {v : Value} {T : Int} {F : HU.St} {l : List HU.Ru} (x : HL w b v T F l W) :
    Calls Try.prog 57 #[v, .func (.func 58) #[] #[]] W fun e w' => e = .returned (.tuple #[]) ∧ HL w b v T F (HU.tl F) w' ∧ OV b v v W w' := by
  have eg : ∀ args w, (callFunc 58 args).run Try.prog w = .ok (.enter 58 args) w := enters_of Try.func58 (by kernel_rfl) rfl
  have hlen := x.len
  refine (sort_ru 58 cmpT swoT eg byTelling_gn rfl x.own (by omega)).mono ?_
  rintro e w' ⟨rfl, l', hp, hs, ho, hg⟩
  have hr := x.rep.of_perm hp
  have e1 : l' = HU.tl F := HU.tl_uniq x.ok hr (hs.imp leT_of)
  subst e1
  refine ⟨rfl, x.turn hg ?_ hr x.ok, OV.grown hg⟩
  rw [hp.length_eq]; exact ho
set_option maxRecDepth 8000 in
set_option maxHeartbeats 4000000 in
theorem Push_x {w W : World} {b : Nat} {v : Value} {T : Int} {F : HU.St} {l : List HU.Ru} (x : HL w b v T F l W) (ms : List K.Me) (a : Option Addr) (c : Nat) (hv : RS lyM W a ms) (hap : ms ≠ [] → Apart b v a) (hn : ms.length ≤ 1000) :
    Calls Try.prog 38 #[.pointer (some ⟨b, 0, none⟩), .slice a ms.length c] W fun e w' => e = .returned (.tuple #[]) ∧ ∃ v', HL w b v' T (HU.push T F ms) (HU.tl (HU.push T F ms)) w' ∧ OV b v v' W w' := by
  have HV : Hid (RS lyM W a ms) := hv
  have HA : Hid (ms ≠ [] → Apart b v a) := hap
  have HX : Hid (HL w b v T F l W) := x
  obtain ⟨fs, hum⟩ := undMe
  clear hv hap x
  go_enter Try.func38, Try.ntmps38
  go_wp2_with fail
  go_loopw [5, 10] (fun _ u10 wr => ∃ (k : Nat) (v' : Value) (l' : List HU.Ru), k ≤ ms.length ∧ u10 = .int .i64 k ∧ HL w b v' T (HU.push T F (ms.take k)) l' wr ∧ OV b v v' W wr) (fun _ u10 _ => ms.length - (intOf u10).toNat)
  case atStart => exact ⟨0, v, l, Nat.zero_le _, rfl, HX.out, OV.refl _ _ _⟩
  case round =>
    obtain ⟨k, v', l', hk, rfl, hx, hov⟩ := hrel
    by_cases hlt : k < ms.length
    · obtain ⟨m, hm⟩ : ∃ m, ms[k]? = some m := ⟨ms[k], List.getElem?_eq_getElem hlt⟩
      obtain ⟨b2, off, rfl, hb2, hrg⟩ := (HV.out.ov hov (HA.out (fun e => by rw [e] at hlt; simp at hlt))) k m hm
      have HPU : Hid (HU.push T F (ms.take (k + 1)) = HU.put T (HU.push T F (ms.take k)) m) := HU.push_take hm
      have HXR : Hid (HL w b v' T (HU.push T F (ms.take k)) l' wr) := hx
      have HOV : Hid (OV b v v' W wr) := hov
      have C1 : Hid (Calls Try.prog 55 #[.agg (meV m)] (wr.alloc (.cells (meV m) 54)) fun e w' => e = .returned (.bool (K.good m)) ∧ Bl (wr.alloc (.cells (meV m) 54)) w') := Good_x m _ _ (Bl.refl _)
      generalize HU.push T F (ms.take k) = G at *
      clear hx hov HX HV HA hm
      cases hg : K.good m with
      | false =>
        rw [hg] at C1
        have HPE : Hid (HU.put T G m = G) := by show _ = _; unfold HU.put; rw [hg]; rfl
        clear hg
        obtain ⟨n, i, s⟩ := m
        have HR : Hid (wr.rangeAt b2 (off + k * 3) [.int .i64 n, .int .i64 i, .int .i64 s]) := hrg
        clear hrg
        unfold meV at C1
        simp only at C1
        go_wp2_with (first
          | (refine wpList_load_mid rfl 54 _ rfl b2 (off + k * 3) rfl [.int .i64 n, .int .i64 i, .int .i64 s] _ HR.out hum rfl infoMe ?_; clear HR)
          | (go_at_call 55; refine (C1.out).mono ?_; clear C1; rintro e w2 ⟨rfl, HB⟩))
        go_roundw
        case rel => exact ⟨k + 1, v', l', by omega, by go_num, by rw [HPU.out, HPE.out]; exact HXR.out.grow HB.up, HOV.out.trans (OV.bl HB.up)⟩
        case measure => simp [intOf]; omega
      | true =>
        rw [hg] at C1
        have HPE : Hid (HU.put T G m = HU.set1 G T m) := by show _ = _; unfold HU.put; rw [if_pos hg]
        have hgm : K.Good m := (K.good_iff m).1 hg
        have C2 : Hid (∀ w2, Bl (wr.alloc (.cells (meV m) 54)) w2 → Calls Try.prog 56 #[.pointer (some ⟨b, 0, none⟩), .agg (meV m)] w2 fun e w' => e = .returned (.tuple #[]) ∧ ∃ v2 l2, HL w b v2 T (HU.set1 G T m) l2 w' ∧ OV b v' v2 w2 w') := fun w2 hb => put_x (HXR.out.grow hb.up) m hgm
        clear hg hgm
        obtain ⟨n, i, s⟩ := m
        have HR : Hid (wr.rangeAt b2 (off + k * 3) [.int .i64 n, .int .i64 i, .int .i64 s]) := hrg
        clear hrg
        unfold meV at C1 C2
        simp only at C1 C2
        go_wp2_with (first
          | (refine wpList_load_mid rfl 54 _ rfl b2 (off + k * 3) rfl [.int .i64 n, .int .i64 i, .int .i64 s] _ HR.out hum rfl infoMe ?_; clear HR)
          | (go_at_call 55; refine (C1.out).mono ?_; clear C1; rintro e w2 ⟨rfl, HB⟩; have R2 := range3 HB.box)
          | (refine wpList_load_mid rfl 54 _ rfl wr.heap.size 0 rfl [.int .i64 n, .int .i64 i, .int .i64 s] _ R2 hum rfl infoMe ?_; clear R2)
          | (go_at_call 56; refine (C2.out _ HB).mono ?_; clear C2; rintro e w3 ⟨rfl, v2, l2, H3, O3⟩))
        go_roundw
        case rel => exact ⟨k + 1, v2, l2, by omega, by go_num, by rw [HPU.out, HPE.out]; exact H3, (HOV.out.trans (OV.bl HB.up)).trans O3⟩
        case measure => simp [intOf]; omega
    · obtain rfl : k = ms.length := by omega
      rw [List.take_length] at hx
      have c1 := hx.c1
      have CS : Hid (Calls Try.prog 57 #[v', .func (.func 58) #[] #[]] wr fun e w' => e = .returned (.tuple #[]) ∧ HL w b v' T (HU.push T F ms) (HU.tl (HU.push T F ms)) w' ∧ OV b v' v' wr w') := sort_h hx
      have HOV : Hid (OV b v v' W wr) := hov
      clear hx hov HX HV HA
      go_wp2_with (first
        | (go_at_call 57; refine (CS.out).mono ?_; clear CS; rintro e w2 ⟨rfl, H2, O2⟩))
      refine bodyPost_end (results_none rfl _ _ _) rfl ?_
      exact ⟨rfl, v', H2, HOV.out.trans O2⟩
theorem Push_nil (u : Value) (W : World) : Calls Try.prog 38 #[.pointer none, u] W fun e w' => e = .returned (.tuple #[]) ∧ w' = W := by
  go_enter Try.func38, Try.ntmps38
  go_wp2_with fail
  refine bodyPost_ret (results_none rfl _ _ _) rfl ?_
  exact ⟨rfl, rfl⟩
theorem Take_nil (k : Int) (W : World) : Calls Try.prog 40 #[.pointer none, .int .i64 k] W fun e w' => e = .returned (.slice none 0 0) ∧ w' = W := by
  go_enter Try.func40, Try.ntmps40
  go_wp2_with fail
  go_ret
  exact ⟨rfl, rfl⟩
end Go.Proofs.Ytebmgajijjhinaa
